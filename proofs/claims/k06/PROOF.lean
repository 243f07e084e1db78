import PyProof.Rows.All
import Wide.All
import OpenK.AllK
import Wide.FinOn
import HandS.ForMost
import HandS.ForExc
import HandS.Deep
import HandS.Zip
import HandS.TupAny
import HandS.TupMul
import HandS.Wide
import HandS.IsInst
import HandS.Defaults
import HandS.Rev
import HandS.SortInts
import HandS.SetFor
import HandS.RaiseMore
import PyProof.TypeEq
import PyProof.FactsAll.object_2
import KE.GoesEnum
import KE.GoesMore
import PyProof.ReprRoads
import PyProof.CallFns
import HandS.SetBool
import HandS.TupSets
import HandS.Strs
import HandS.Head0
import HandS.Head1
import HandS.Head2
import HandS.HeadEnd
import HandS.HeadHook1
import HandS.HeadHook2
import PySem.Challenge.RW_eitherfields_k06_agreeing_and_mixing
set_option Elab.async false
set_option linter.all false
set_option maxRecDepth 100000
/-! EF1: data in the abstract heap, a store of lists that may change, and how both lie in it. -/
namespace EF
open PySem PySem.Spec PyProof.Rows L2

/-- c: the addresses of the lists that may change (none: one that has come to rest); r: lists that are being made just now -/
structure CS where
  c : List (Option Addr)
  r : List Addr
/-- what these lists hold -/
abbrev Sto := List (Option (List PyData))
def Live (cs : CS) (a : Addr) : Prop := some a ∈ cs.c ∨ a ∈ cs.r

mutual
/-- v is the data d, no part of which is a list that may change -/
inductive Dq (H : Hp) (cs : CS) : V → PyData → Prop
  | non : Dq H cs .non .none
  | bl (b : Bool) : Dq H cs (.bl b) (.bool b)
  | int (i : Int) : Dq H cs (.int i) (.int i)
  | str (x : Str) : Dq H cs (.str x) (.str x)
  | lst {a : Addr} {xs : List V} {ds : List PyData} : H a = some (.lst xs) → ¬ Live cs a → DqAll H cs xs ds → Dq H cs (.ref a) (.list ds)
  | tup {a : Addr} {xs : List V} {ds : List PyData} : H a = some (.tup xs) → ¬ Live cs a → DqAll H cs xs ds → Dq H cs (.ref a) (.tuple ds)
  | dic {a : Addr} {kvs : List (L2.Key × V)} {ds : List (PyData × PyData)} : H a = some (.dK kvs) → ¬ Live cs a → DqKv H cs kvs ds → Dq H cs (.ref a) (.dict ds)
inductive DqAll (H : Hp) (cs : CS) : List V → List PyData → Prop
  | nil : DqAll H cs [] []
  | cons {v : V} {vs : List V} {d : PyData} {ds : List PyData} : Dq H cs v d → DqAll H cs vs ds → DqAll H cs (v :: vs) (d :: ds)
inductive DqKv (H : Hp) (cs : CS) : List (L2.Key × V) → List (PyData × PyData) → Prop
  | nil : DqKv H cs [] []
  | int {k : Int} {v : V} {vs : List (L2.Key × V)} {d : PyData} {ds : List (PyData × PyData)} : Dq H cs v d → DqKv H cs vs ds → DqKv H cs ((.inl k, v) :: vs) ((.int k, d) :: ds)
  | str {k : Str} {v : V} {vs : List (L2.Key × V)} {d : PyData} {ds : List (PyData × PyData)} : Dq H cs v d → DqKv H cs vs ds → DqKv H cs ((.inr k, v) :: vs) ((.str k, d) :: ds)
end

/-- as Dq, or a list that may change, read at once -/
def Dr (K : PySem.W.Frag) (H : Hp) (cs : CS) (v : V) (d : PyData) : Prop :=
  Dq H cs v d ∨ ∃ (a : Addr) (xs : List V) (ds : List PyData), v = .ref a ∧ d = .list ds ∧ SqL K H a xs ∧ DqAll H cs xs ds
theorem Dq.r {K : PySem.W.Frag} {H : Hp} {cs : CS} {v : V} {d : PyData} (h : Dq H cs v d) : Dr K H cs v d := .inl h

section
variable {H H' : Hp} {cs cs' : CS}
mutual
theorem Dq.mono (k : ∀ a o, H a = some o → ¬ Live cs a → H' a = some o) (n : ∀ a o, H a = some o → ¬ Live cs a → ¬ Live cs' a) : ∀ {v : V} {d : PyData}, Dq H cs v d → Dq H' cs' v d
  | _, _, .non => .non
  | _, _, .bl b => .bl b
  | _, _, .int i => .int i
  | _, _, .str x => .str x
  | _, _, .lst e l r => .lst (k _ _ e l) (n _ _ e l) (DqAll.mono k n r)
  | _, _, .tup e l r => .tup (k _ _ e l) (n _ _ e l) (DqAll.mono k n r)
  | _, _, .dic e l r => .dic (k _ _ e l) (n _ _ e l) (DqKv.mono k n r)
theorem DqAll.mono (k : ∀ a o, H a = some o → ¬ Live cs a → H' a = some o) (n : ∀ a o, H a = some o → ¬ Live cs a → ¬ Live cs' a) : ∀ {vs : List V} {ds : List PyData}, DqAll H cs vs ds → DqAll H' cs' vs ds
  | _, _, .nil => .nil
  | _, _, .cons a b => .cons (Dq.mono k n a) (DqAll.mono k n b)
theorem DqKv.mono (k : ∀ a o, H a = some o → ¬ Live cs a → H' a = some o) (n : ∀ a o, H a = some o → ¬ Live cs a → ¬ Live cs' a) : ∀ {vs : List (L2.Key × V)} {ds : List (PyData × PyData)}, DqKv H cs vs ds → DqKv H' cs' vs ds
  | _, _, .nil => .nil
  | _, _, .int a b => .int (Dq.mono k n a) (DqKv.mono k n b)
  | _, _, .str a b => .str (Dq.mono k n a) (DqKv.mono k n b)
end

/-- from one state to a later one -/
structure Ext (H : Hp) (cs : CS) (H' : Hp) (cs' : CS) : Prop where
  keep : ∀ a o, H a = some o → some a ∉ cs.c → H' a = some o
  new : ∀ a, some a ∈ cs'.c → some a ∈ cs.c ∨ H a = none
  res : cs'.r = cs.r
  len : cs.c.length ≤ cs'.c.length
  old : ∀ (n : Nat) (a : Addr), n < cs.c.length → cs'.c[n]? = some (some a) → cs.c[n]? = some (some a)
  there : ∀ a o, H a = some o → ∃ o', H' a = some o'
theorem Ext.nlive (e : Ext H cs H' cs') : ∀ a o, H a = some o → ¬ Live cs a → ¬ Live cs' a := fun a o h l q => by
  rcases q with q | q
  · rcases e.new a q with z | z
    · exact l (.inl z)
    · rw [h] at z; cases z
  · rw [e.res] at q; exact l (.inr q)
theorem Ext.dq (e : Ext H cs H' cs') {v : V} {d : PyData} (h : Dq H cs v d) : Dq H' cs' v d := h.mono (fun a o q l => e.keep a o q fun z => l (.inl z)) e.nlive
theorem Ext.dqs (e : Ext H cs H' cs') {v : List V} {d : List PyData} (h : DqAll H cs v d) : DqAll H' cs' v d := h.mono (fun a o q l => e.keep a o q fun z => l (.inl z)) e.nlive
theorem Ext.refl : Ext H cs H cs := ⟨fun _ _ h _ => h, fun _ h => .inl h, rfl, Nat.le_refl _, fun _ _ _ h => h, fun _ o h => ⟨o, h⟩⟩
theorem Ext.trans {H1 H2 : Hp} {c1 c2 : CS} (a : Ext H cs H1 c1) (b : Ext H1 c1 H2 c2) : Ext H cs H2 c2 where
  keep := fun x o h l => b.keep x o (a.keep x o h l) fun q => by
    rcases a.new x q with z | z
    · exact l z
    · rw [h] at z; cases z
  new := fun x l => by
    rcases b.new x l with z | z
    · exact a.new x z
    · right
      cases q : H x with
      | none => rfl
      | some o =>
        obtain ⟨o', e⟩ := a.there x o q
        rw [e] at z; cases z
  res := b.res.trans a.res
  len := Nat.le_trans a.len b.len
  old := fun n x h e => a.old n x h (b.old n x (Nat.lt_of_lt_of_le h a.len) e)
  there := fun x o h => by
    obtain ⟨o1, e1⟩ := a.there x o h
    exact b.there x o1 e1
theorem Ext.same (s : Same H H') : Ext H cs H' cs := ⟨fun a o h _ => s a o h, fun _ h => .inl h, rfl, Nat.le_refl _, fun _ _ _ h => h, fun a o h => ⟨o, s a o h⟩⟩

/-- live lists are lists -/
def LvOk (H : Hp) (cs : CS) : Prop := ∀ a, Live cs a → ∃ xs, H a = some (.lst xs)
theorem LvOk.fresh (l : LvOk H cs) {p : Addr} (h : H p = none) : ¬ Live cs p := fun q => by
  obtain ⟨xs, e⟩ := l p q
  rw [h] at e; cases e
theorem LvOk.same (l : LvOk H cs) (s : Same H H') : LvOk H' cs := fun a q => by
  obtain ⟨xs, e⟩ := l a q
  exact ⟨xs, s _ _ e⟩

/-- the store lies in the heap -/
structure StoOk (H : Hp) (cs : CS) (st : Sto) : Prop where
  len : cs.c.length = st.length
  at_ : ∀ (n : Nat) (a : Addr), cs.c[n]? = some (some a) → ∃ (xs : List V) (ds : List PyData), H a = some (.lst xs) ∧ st[n]? = some (some ds) ∧ DqAll H cs xs ds
  has : ∀ (n : Nat) (ds : List PyData), st[n]? = some (some ds) → ∃ a, cs.c[n]? = some (some a)
  inj : ∀ (n m : Nat) (a : Addr), cs.c[n]? = some (some a) → cs.c[m]? = some (some a) → n = m
  res : ∀ a ∈ cs.r, some a ∉ cs.c ∧ ∃ xs, H a = some (.lst xs)
theorem StoOk.lv {st : Sto} (s : StoOk H cs st) : LvOk H cs := fun a h => by
  rcases h with h | h
  · obtain ⟨n, e⟩ := List.getElem?_of_mem h
    obtain ⟨xs, ds, q, _⟩ := s.at_ n a e
    exact ⟨xs, q⟩
  · exact (s.res a h).2
theorem StoOk.same {st : Sto} (s : StoOk H cs st) (k : Same H H') : StoOk H' cs st :=
  ⟨s.len, fun n a e => by
    obtain ⟨xs, ds, q1, q2, q3⟩ := s.at_ n a e
    exact ⟨xs, ds, k _ _ q1, q2, q3.mono (fun a o h _ => k a o h) fun _ _ _ l => l⟩, s.has, s.inj, fun a h => by
    obtain ⟨q1, xs, q2⟩ := s.res a h
    exact ⟨q1, xs, k _ _ q2⟩⟩
end

/-- what a slot holds: data, a list that may change, the script -/
inductive W where
  | d (x : PyData) | c (n : Nat) | s (xs : List Int)
def ScrAt (K : PySem.W.Frag) (H : Hp) (a : Addr) (xs : List Int) : Prop :=
  (∃ o, H a = some (.frz o (.lst (xs.map V.int)))) ∨ SqL K (fun _ => none) a (xs.map V.int)
theorem ScrAt.sq {K : PySem.W.Frag} {H : Hp} {a : Addr} {xs : List Int} (h : ScrAt K H a xs) : SqL K H a (xs.map V.int) := by
  rcases h with ⟨o, h⟩ | (h | h) | h
  · exact .inl (.inr ⟨o, h⟩)
  · cases h
  · obtain ⟨_, h⟩ := h; cases h
  · exact .inr h
def RW (K : PySem.W.Frag) (H : Hp) (cs : CS) (v : V) : W → Prop
  | .d x => Dq H cs v x
  | .c n => ∃ a, v = .ref a ∧ n < cs.c.length ∧ ∀ b, cs.c[n]? = some (some b) → b = a
  | .s xs => ∃ a, v = .ref a ∧ ScrAt K H a xs
def RWs (K : PySem.W.Frag) (H : Hp) (cs : CS) : List V → List W → Prop := Paired (RW K H cs)
abbrev Rho := List (Option W)
structure Slots (K : PySem.W.Frag) (σ : L2.St) (H : Hp) (ρ : Rho) (cs : CS) : Prop where
  len : σ.length = ρ.length
  at_ : ∀ (i : Nat) (w : W), ρ[i]? = some (some w) → ∃ v, σ[i]? = some (some v) ∧ RW K H cs v w
section
variable {K : PySem.W.Frag} {H H' : Hp} {cs cs' : CS} {σ : L2.St} {ρ : Rho} {st : Sto}
theorem Ext.rw (lv : LvOk H cs) (e : Ext H cs H' cs') {v : V} {w : W} (h : RW K H cs v w) : RW K H' cs' v w := by
  cases w with
  | d x => exact e.dq h
  | c n =>
    obtain ⟨a, e1, hn, hb⟩ := h
    exact ⟨a, e1, Nat.lt_of_lt_of_le hn e.len, fun b q => hb b (e.old n b hn q)⟩
  | s xs =>
    obtain ⟨a, e1, q⟩ := h
    refine ⟨a, e1, ?_⟩
    rcases q with ⟨o, q⟩ | q
    · refine .inl ⟨o, e.keep _ _ q fun l => ?_⟩
      obtain ⟨ys, z⟩ := lv a (.inl l)
      rw [q] at z; cases z
    · exact .inr q
theorem Ext.slots (lv : LvOk H cs) (e : Ext H cs H' cs') (s : Slots K σ H ρ cs) : Slots K σ H' ρ cs' :=
  ⟨s.len, fun i w h => by
    obtain ⟨v, q1, q2⟩ := s.at_ i w h
    exact ⟨v, q1, e.rw lv q2⟩⟩
theorem Ext.rws (lv : LvOk H cs) (e : Ext H cs H' cs') {vs : List V} {ws : List W} (h : RWs K H cs vs ws) : RWs K H' cs' vs ws := Paired.mapP h fun _ _ q => e.rw lv q
theorem Slots.set (s : Slots K σ H ρ cs) {v : V} {w : W} (i : Nat) (h : RW K H cs v w) : Slots K (σ.set i (some v)) H (ρ.set i (some w)) cs :=
  ⟨by rw [List.length_set, List.length_set]; exact s.len, fun j u e => by
    by_cases hj : i = j
    · subst hj
      by_cases hi : i < ρ.length
      · rw [List.getElem?_set_self hi] at e
        cases e
        exact ⟨v, List.getElem?_set_self (by rw [s.len]; exact hi), h⟩
      · rw [List.getElem?_eq_none (by rw [List.length_set]; omega)] at e
        cases e
    · rw [List.getElem?_set_ne hj] at e
      rw [List.getElem?_set_ne hj]
      exact s.at_ j u e⟩
theorem DqAll.length : ∀ {vs : List V} {ds : List PyData}, DqAll H cs vs ds → vs.length = ds.length
  | _, _, .nil => rfl
  | _, _, .cons _ t => by rw [List.length_cons, List.length_cons, DqAll.length t]
theorem DqAll.get : ∀ {vs : List V} {ds : List PyData} {i : Nat} {d : PyData}, DqAll H cs vs ds → ds[i]? = some d → ∃ v, vs[i]? = some v ∧ Dq H cs v d
  | _, _, _, _, .nil, e => by simp at e
  | _, _, 0, _, .cons r _, e => by simp at e; subst e; exact ⟨_, rfl, r⟩
  | _, _, i + 1, d, .cons _ t, e => by
    obtain ⟨u, h1, h2⟩ := DqAll.get (i := i) (d := d) t (by simpa using e)
    exact ⟨u, by simpa using h1, h2⟩
theorem DqAll.append : ∀ {vs us : List V} {ds es : List PyData}, DqAll H cs vs ds → DqAll H cs us es → DqAll H cs (vs ++ us) (ds ++ es)
  | _, _, _, _, .nil, s => s
  | _, _, _, _, .cons r t, s => .cons r (DqAll.append t s)
theorem DqAll.take : ∀ {vs : List V} {ds : List PyData} (n : Nat), DqAll H cs vs ds → DqAll H cs (vs.take n) (ds.take n)
  | _, _, 0, _ => .nil
  | _, _, _ + 1, .nil => .nil
  | _, _, n + 1, .cons r t => .cons r (DqAll.take n t)
theorem DqAll.drop : ∀ {vs : List V} {ds : List PyData} (n : Nat), DqAll H cs vs ds → DqAll H cs (vs.drop n) (ds.drop n)
  | _, _, 0, r => r
  | _, _, _ + 1, .nil => .nil
  | _, _, n + 1, .cons _ t => DqAll.drop n t
theorem DqAll.set {v : V} {d : PyData} (r : Dq H cs v d) : ∀ {vs : List V} {ds : List PyData} (i : Nat), DqAll H cs vs ds → DqAll H cs (vs.set i v) (ds.set i d)
  | _, _, _, .nil => .nil
  | _, _, 0, .cons _ t => .cons r t
  | _, _, i + 1, .cons q t => .cons q (DqAll.set r i t)
mutual
/-- data without dicts -/
def nod : PyData → Bool
  | .list xs => nods xs
  | .tuple xs => nods xs
  | .dict _ => false
  | _ => true
def nods : List PyData → Bool
  | [] => true
  | x :: xs => nod x && nods xs
end
mutual
theorem Dq.dp : ∀ {v : V} {d : PyData}, Dq H cs v d → nod d = true → Dp K H v d
  | _, _, .non, _ => .non
  | _, _, .bl b, _ => .bl b
  | _, _, .int i, _ => .int i
  | _, _, .str x, _ => .str x
  | _, _, .lst e _ r, h => .lst (SqL.of e) (DqAll.dp r (by simpa [nod] using h))
  | _, _, .tup e _ r, h => .tup (SqT.of e) (DqAll.dp r (by simpa [nod] using h))
  | _, _, .dic _ _ _, h => by simp [nod] at h
theorem DqAll.dp : ∀ {vs : List V} {ds : List PyData}, DqAll H cs vs ds → nods ds = true → DpAll K H vs ds
  | _, _, .nil, _ => .nil
  | _, _, .cons a b, h => by
    simp only [nods, Bool.and_eq_true] at h
    exact .cons (Dq.dp a h.1) (DqAll.dp b h.2)
end
theorem Dr.dp {v : V} {d : PyData} (h : Dr K H cs v d) (n : nod d = true) : Dp K H v d := by
  rcases h with h | ⟨a, xs, ds, rfl, rfl, e, r⟩
  · exact h.dp n
  · exact .lst e (r.dp (by simpa [nod] using n))
end
end EF

set_option Elab.async false
set_option linter.all false
set_option maxRecDepth 100000
/-! EF2: what the code does to data: functions of slots and store; the readings of expressions by such functions. -/
namespace EF
open PySem PySem.Spec PyProof.Rows L2

def M (α : Type) : Type := Sto → Option (α × Sto)
instance : Monad M where
  pure a := fun st => some (a, st)
  bind m k := fun st => match m st with | some (a, s) => k a s | none => none
def fail {α : Type} : M α := fun _ => none
def ofOpt {α : Type} (o : Option α) : M α := fun st => o.map fun a => (a, st)
theorem bind_some {α β : Type} {m : M α} {k : α → M β} {st : Sto} {r : β × Sto} (h : (m >>= k) st = some r) : ∃ a s, m st = some (a, s) ∧ k a s = some r := by
  have h' : (match m st with | some (a, s) => k a s | none => none) = some r := h
  cases e : m st with
  | none => rw [e] at h'; cases h'
  | some p =>
    rw [e] at h'
    exact ⟨p.1, p.2, rfl, h'⟩
theorem bind_eq {α β : Type} {m : M α} {k : α → M β} {st s : Sto} {a : α} (h : m st = some (a, s)) : (m >>= k) st = k a s := by
  show (match m st with | some (a, s) => k a s | none => none) = _
  rw [h]
theorem pure_some {α : Type} {a b : α} {st s : Sto} (h : (pure a : M α) st = some (b, s)) : a = b ∧ st = s := by
  have h' : some (a, st) = some (b, s) := h
  cases h'; exact ⟨rfl, rfl⟩
theorem ofOpt_some {α : Type} {o : Option α} {b : α} {st s : Sto} (h : ofOpt o st = some (b, s)) : o = some b ∧ st = s := by
  unfold ofOpt at h
  cases o with
  | none => cases h
  | some a => cases h; exact ⟨rfl, rfl⟩
theorem fail_some {α : Type} {b : α} {st s : Sto} (h : (fail : M α) st = some (b, s)) : False := by cases h

abbrev XE := Rho → M PyData
abbrev XB := Rho → M Bool

/-! ### readings -/
def tE (K : PySem.W.Frag) (f : XE) : TE := fun σ H Q => ∃ ρ cs st d st', Slots K σ H ρ cs ∧ StoOk H cs st ∧ f ρ st = some (d, st') ∧
  ∀ v H' cs', Ext H cs H' cs' → StoOk H' cs' st' → Dq H' cs' v d → Q v H'
/-- the value is read at once -/
def tR (K : PySem.W.Frag) (f : XE) : TE := fun σ H Q => ∃ ρ cs st d st', Slots K σ H ρ cs ∧ StoOk H cs st ∧ f ρ st = some (d, st') ∧
  ∀ v H' cs', Ext H cs H' cs' → StoOk H' cs' st' → Dr K H' cs' v d → Q v H'
def tT (K : PySem.W.Frag) (f : XB) : TT := fun σ H Q => ∃ ρ cs st b st', Slots K σ H ρ cs ∧ StoOk H cs st ∧ f ρ st = some (b, st') ∧
  ∀ H' cs', Ext H cs H' cs' → StoOk H' cs' st' → Q b H'
def tA (K : PySem.W.Frag) (f : Rho → M (List PyData)) : TA := fun σ H Q => ∃ ρ cs st ds st', Slots K σ H ρ cs ∧ StoOk H cs st ∧ f ρ st = some (ds, st') ∧
  ∀ vs H' cs', Ext H cs H' cs' → StoOk H' cs' st' → DqAll H' cs' vs ds → Q vs H'
/-- arguments of a def of the program: lists that may change among them -/
def tW (K : PySem.W.Frag) (f : Rho → M (List W)) : TA := fun σ H Q => ∃ ρ cs st ws st', Slots K σ H ρ cs ∧ StoOk H cs st ∧ f ρ st = some (ws, st') ∧
  ∀ vs H' cs', Ext H cs H' cs' → StoOk H' cs' st' → RWs K H' cs' vs ws → Q vs H'

section
variable {X : Cx} {e a b c : Expr} {t t' : TE} {pos : Pos}
theorem _root_.L2.PE.imp (h : PE X e t) (k : ∀ σ H Q, t' σ H Q → t σ H Q) : PE X e t' := ⟨fun pins s σ H Q I hw => h.run pins s σ H Q I (k σ H Q hw)⟩
theorem _root_.L2.PT.imp {t t' : TT} (h : PT X e t) (k : ∀ σ H Q, t' σ H Q → t σ H Q) : PT X e t' := ⟨fun pins s σ H Q I hw => h.run pins s σ H Q I (k σ H Q hw)⟩
theorem _root_.L2.PW.imp {t t' : TT} (h : PW X e t) (k : ∀ σ H Q, t' σ H Q → t σ H Q) : PW X e t' := ⟨fun wh pins s σ H Q I hw => h.run wh pins s σ H Q I (k σ H Q hw)⟩
theorem _root_.L2.PA.imp {es : List Expr} {t t' : TA} (h : PA X es t) (k : ∀ σ H Q, t' σ H Q → t σ H Q) : PA X es t' := ⟨fun pos pins s σ H Q I hw => h.run pos pins s σ H Q I (k σ H Q hw)⟩
/-- the strong reading is one that may be read at once -/
theorem s_weak {f : XE} (h : PE X e (tE X.K f)) : PE X e (tR X.K f) := h.imp fun σ H Q ⟨ρ, cs, st, d, st', sl, so, e, k⟩ =>
  ⟨ρ, cs, st, d, st', sl, so, e, fun v H' cs' x so' q => k v H' cs' x so' q.r⟩

/-! ### constants, names -/
theorem s_const {v : V} {d : PyData} (h : PE X e (tC v)) (r : ∀ H cs, Dq H cs v d) : PE X e (tE X.K fun _ => pure d) := h.imp fun σ H Q ⟨ρ, cs, st, d', st', sl, so, e, k⟩ => by
  obtain ⟨rfl, rfl⟩ := pure_some e
  exact k v H cs .refl so (r H cs)
theorem s_int {i : Int} {j : Nat} : PE X (.Constant (.int i) j pos) (tE X.K fun _ => pure (.int i)) := s_const pe_int fun _ _ => .int i
theorem s_bool {i : Bool} {j : Nat} : PE X (.Constant (.bool i) j pos) (tE X.K fun _ => pure (.bool i)) := s_const pe_bl fun _ _ => .bl i
theorem s_none {j : Nat} : PE X (.Constant .none j pos) (tE X.K fun _ => pure .none) := s_const pe_non fun _ _ => .non
theorem s_str {x : Str} {j : Nat} : PE X (.Constant (.str x) j pos) (tE X.K fun _ => pure (.str x)) := s_const pe_str fun _ _ => .str x
theorem s_glob {x : Str} {i : Int} {t : Tok} (hg : Gl X x) (hm : X.mg x = some (.int i t)) (hd : (x == ("__debug__" : Str)) = false) : PE X (.Name x pos) (tE X.K fun _ => pure (.int i)) :=
  s_const (v := .int i) (pe_glob hg hm ⟨t, rfl⟩ hd) fun _ _ => .int i
/-- the data in slot i -/
def slotD : Option (Option W) → Option PyData
  | some (some (.d x)) => some x
  | _ => none
def rdV (i : Nat) : XE := fun ρ => ofOpt (slotD ρ[i]?)
theorem rdV_some {i : Nat} {ρ : Rho} {st st' : Sto} {d : PyData} (h : rdV i ρ st = some (d, st')) : ρ[i]? = some (some (.d d)) ∧ st = st' := by
  obtain ⟨h1, h2⟩ := ofOpt_some h
  refine ⟨?_, h2⟩
  unfold slotD at h1
  split at h1
  · rename_i x e
    cases h1
    exact e
  · cases h1
theorem s_var {i : Nat} (h : PE X e (tVar i)) : PE X e (tE X.K (rdV i)) := h.imp fun σ H Q ⟨ρ, cs, st, d, st', sl, so, e, k⟩ => by
  obtain ⟨e1, rfl⟩ := rdV_some e
  obtain ⟨v, e2, r⟩ := sl.at_ i _ e1
  exact ⟨v, e2, k v H cs .refl so r⟩
/-- what the list that may change in slot i (or the script) holds -/
def rdC (i : Nat) (ρ : Rho) : M (List PyData) := fun st => match ρ[i]? with
  | some (some (.c n)) => match st[n]? with
    | some (some ds) => some (ds, st)
    | _ => none
  | some (some (.s xs)) => some (xs.map PyData.int, st)
  | _ => none
theorem ints_dq {H : Hp} {cs : CS} : ∀ xs : List Int, DqAll H cs (xs.map V.int) (xs.map PyData.int)
  | [] => .nil
  | x :: xs => .cons (.int x) (ints_dq xs)
/-- it is there, in the heap -/
theorem rdC_at {K : PySem.W.Frag} {σ : L2.St} {H : Hp} {ρ : Rho} {cs : CS} {i : Nat} {st st' : Sto} {ds : List PyData} (sl : Slots K σ H ρ cs) (so : StoOk H cs st) (h : rdC i ρ st = some (ds, st')) :
    st = st' ∧ ∃ (a : Addr) (xs : List V), σ[i]? = some (some (.ref a)) ∧ SqL K H a xs ∧ DqAll H cs xs ds := by
  unfold rdC at h
  split at h
  · rename_i n e
    split at h
    · rename_i ds' e'
      cases h
      obtain ⟨v, e1, a, rfl, hn, hb⟩ := sl.at_ i _ e
      obtain ⟨b, eb⟩ := so.has n _ e'
      obtain rfl := hb b eb
      obtain ⟨xs, ds2, q1, q2, q3⟩ := so.at_ n b eb
      rw [e'] at q2
      cases q2
      exact ⟨rfl, b, xs, e1, SqL.of q1, q3⟩
    · cases h
  · rename_i xs e
    cases h
    obtain ⟨v, e1, a, rfl, q⟩ := sl.at_ i _ e
    exact ⟨rfl, a, _, e1, q.sq, ints_dq xs⟩
  · cases h
def rdCV (i : Nat) : XE := fun ρ => do let ds ← rdC i ρ; pure (.list ds)
theorem s_cvar {i : Nat} (h : PE X e (tVar i)) : PE X e (tR X.K (rdCV i)) := h.imp fun σ H Q ⟨ρ, cs, st, d, st', sl, so, e, k⟩ => by
  obtain ⟨ds, s1, e1, e2⟩ := bind_some e
  obtain ⟨rfl, rfl⟩ := pure_some e2
  obtain ⟨rfl, a, xs, e3, q, r⟩ := rdC_at sl so e1
  exact ⟨.ref a, e3, k _ H cs .refl so (.inr ⟨a, xs, ds, rfl, rfl, q, r⟩)⟩

/-! ### operators: what they make of data, the store as it was -/
/-- the rule r does to data what g says -/
def OpD (K : PySem.W.Frag) (r : R2) (g : PyData → PyData → Option PyData) : Prop :=
  ∀ (H : Hp) (cs : CS) (x y : V) (d e z : PyData) (Q : VK), LvOk H cs → Dr K H cs x d → Dr K H cs y e → g d e = some z → (∀ v H', Same H H' → Dq H' cs v z → Q v H') → r x y H Q
def bin2 (g : PyData → PyData → Option PyData) (f1 f2 : XE) : XE := fun ρ => do let x ← f1 ρ; let y ← f2 ρ; ofOpt (g x y)
theorem two {r : R2} {g : PyData → PyData → Option PyData} {ta tb : TE} {f1 f2 : XE} {σ : L2.St} {H : Hp} {Q : VK} {K : PySem.W.Frag} (hr : OpD K r g) (ha : ∀ σ H Q, tE K f1 σ H Q → ta σ H Q) (hb : ∀ σ H Q, tR K f2 σ H Q → tb σ H Q)
    (h : tE K (bin2 g f1 f2) σ H Q) : tOp r ta tb σ H Q := by
  obtain ⟨ρ, cs, st, d, st', sl, so, e, k⟩ := h
  obtain ⟨x, s1, e1, e'⟩ := bind_some e
  obtain ⟨y, s2, e2, e3⟩ := bind_some e'
  obtain ⟨e4, rfl⟩ := ofOpt_some e3
  exact ha _ _ _ ⟨ρ, cs, st, x, s1, sl, so, e1, fun v H1 c1 x1 so1 q1 => hb _ _ _ ⟨ρ, c1, s1, y, s2, x1.slots so.lv sl, so1, e2, fun u H2 c2 x2 so2 q2 =>
    hr H2 c2 v u x y d Q so2.lv (x2.dq q1).r q2 e4 fun w H3 s3 q3 => k w H3 c2 ((x1.trans x2).trans (Ext.same s3)) (so2.same s3) q3⟩⟩
theorem s_bin {op : Operator} {r : R2} {g : PyData → PyData → Option PyData} {f1 f2 : XE} (ho : OpR X (binaryOp op) r) (hr : OpD X.K r g) (ha : PE X a (tE X.K f1)) (hb : PE X b (tR X.K f2)) : PE X (.BinOp a op b pos) (tE X.K (bin2 g f1 f2)) :=
  (pe_op ho ha hb).imp fun σ H Q h => two hr (fun _ _ _ h => h) (fun _ _ _ h => h) h
theorem s_cmp {op : CmpOp} {r : R2} {g : PyData → PyData → Option PyData} {f1 f2 : XE} (ho : OpR X (compareOp op) r) (hr : OpD X.K r g) (ha : PE X a (tE X.K f1)) (hb : PE X b (tR X.K f2)) (hm : behindInMarks op b = false) :
    PE X (.Compare a [op] [b] pos) (tE X.K (bin2 g f1 f2)) := (pe_cmpR ho ha hb hm).imp fun σ H Q h => two hr (fun _ _ _ h => h) (fun _ _ _ h => h) h
/-- the value of a test -/
def asB (f : XE) : XB := fun ρ => do
  let x ← f ρ
  match x with
  | .bool b => pure b
  | _ => fail
theorem asB_some {f : XE} {ρ : Rho} {st st' : Sto} {b : Bool} (h : asB f ρ st = some (b, st')) : f ρ st = some (.bool b, st') := by
  obtain ⟨x, s1, e1, e2⟩ := bind_some h
  split at e2
  · obtain ⟨rfl, rfl⟩ := pure_some e2
    exact e1
  · exact (fail_some e2).elim
theorem dq_bool {H : Hp} {cs : CS} {v : V} {b : Bool} (h : Dq H cs v (.bool b)) : v = .bl b := by cases h; rfl
theorem dq_int {H : Hp} {cs : CS} {v : V} {b : Int} (h : Dq H cs v (.int b)) : v = .int b := by cases h; rfl
theorem dr_int {K : PySem.W.Frag} {H : Hp} {cs : CS} {v : V} {b : Int} (h : Dr K H cs v (.int b)) : v = .int b := by
  rcases h with h | ⟨a, xs, ds, rfl, e, _⟩
  · exact dq_int h
  · cases e
theorem tT_test {K : PySem.W.Frag} {f : XE} {σ : L2.St} {H : Hp} {Q : Bool → Hp → Prop} (h : tT K (asB f) σ H Q) : tE K f σ H fun x H' => ∃ k, x = .bl k ∧ Q k H' := by
  obtain ⟨ρ, cs, st, b, st', sl, so, e, k⟩ := h
  exact ⟨ρ, cs, st, .bool b, st', sl, so, asB_some e, fun v H' cs' x so' q => ⟨b, dq_bool q, k H' cs' x so'⟩⟩
theorem s_tcmp {op : CmpOp} {r : R2} {g : PyData → PyData → Option PyData} {f1 f2 : XE} (ho : OpR X (compareOp op) r) (hr : OpD X.K r g) (ha : PE X a (tE X.K f1)) (hb : PE X b (tR X.K f2)) (hm : behindInMarks op b = false) :
    PT X (.Compare a [op] [b] pos) (tT X.K (asB (bin2 g f1 f2))) := (pt_cmpR ho ha hb hm).imp fun σ H Q h => two hr (fun _ _ _ h => h) (fun _ _ _ h => h) (tT_test h)
/-- a test by its value, where the test is nothing else -/
theorem s_tval {f : XE} (h : PE X e (tE X.K f)) (he : ∀ whole, isTrue e X.env whole = (do let v ← whole; standAt e.pos; holding [v] (truthy v))) : PT X e (tT X.K (asB f)) := (pt_val h he).imp fun σ H Q h => tT_test h
/-- a op b op' c -/
def chn (g g' : PyData → PyData → Option PyData) (f1 f2 f3 : XE) : XE := fun ρ => do
  let x ← f1 ρ
  let y ← f2 ρ
  let t ← ofOpt (g x y)
  match t with
  | .bool true => do let z ← f3 ρ; ofOpt (g' y z)
  | .bool false => pure (.bool false)
  | _ => fail
theorem three {r r' : R2} {g g' : PyData → PyData → Option PyData} {f1 f2 f3 : XE} {σ : L2.St} {H : Hp} {Q : VK} {K : PySem.W.Frag} (hr : OpD K r g) (hr' : OpD K r' g') (h : tE K (chn g g' f1 f2 f3) σ H Q) : tChain r r' (tE K f1) (tE K f2) (tE K f3) σ H Q := by
  obtain ⟨ρ, cs, st, d, st', sl, so, e, k⟩ := h
  obtain ⟨x, s1, e1, e'⟩ := bind_some e
  obtain ⟨y, s2, e2, e''⟩ := bind_some e'
  obtain ⟨t, s2', e6, e3⟩ := bind_some e''
  obtain ⟨eg, rfl⟩ := ofOpt_some e6
  refine ⟨ρ, cs, st, x, s1, sl, so, e1, fun v H1 c1 x1 so1 q1 => ⟨ρ, c1, s1, y, s2, x1.slots so.lv sl, so1, e2, fun u H2 c2 x2 so2 q2 => ?_⟩⟩
  split at e3
  · obtain ⟨z, s3, e4, e5'⟩ := bind_some e3
    obtain ⟨e5, rfl⟩ := ofOpt_some e5'
    refine hr H2 c2 v u x y (.bool true) _ so2.lv (x2.dq q1).r q2.r eg fun w H3 s3' q3 => ⟨true, dq_bool q3, ?_⟩
    rw [if_pos rfl]
    have x3 : Ext H cs H3 c2 := (x1.trans x2).trans (Ext.same s3')
    exact ⟨ρ, c2, s2, z, s3, x3.slots so.lv sl, so2.same s3', e4, fun u' H4 c4 x4 so4 q4 => hr' H4 c4 u u' y z d Q so4.lv (x4.dq ((Ext.same s3').dq q2)).r q4.r e5 fun w' H5 s5 q5 =>
      k w' H5 c4 ((x3.trans x4).trans (Ext.same s5)) (so4.same s5) q5⟩
  · obtain ⟨rfl, rfl⟩ := pure_some e3
    refine hr H2 c2 v u x y (.bool false) _ so2.lv (x2.dq q1).r q2.r eg fun w H3 s3' q3 => ⟨false, dq_bool q3, ?_⟩
    rw [if_neg Bool.false_ne_true]
    exact k _ H3 c2 ((x1.trans x2).trans (Ext.same s3')) (so2.same s3') (.bl false)
  · exact (fail_some e3).elim

/-! ### and, or, not, if -/
def andX (f1 f2 : XE) : XE := fun ρ => do
  let x ← f1 ρ
  match x with
  | .bool true => f2 ρ
  | .bool false => pure (.bool false)
  | _ => fail
def orX (f1 f2 : XE) : XE := fun ρ => do
  let x ← f1 ρ
  match x with
  | .bool false => f2 ρ
  | .bool true => pure (.bool true)
  | _ => fail
def notX (f1 : XE) : XE := fun ρ => do
  let x ← f1 ρ
  match x with
  | .bool b => pure (.bool (!b))
  | _ => fail
theorem s_and {rest : List Expr} {f1 f2 : XE} (ha : PE X a (tE X.K f1)) (hb : PE X (.BoolOp .And (b :: rest) pos) (tE X.K f2)) : PE X (.BoolOp .And (a :: b :: rest) pos) (tE X.K (andX f1 f2)) :=
  (pe_and ha hb).imp fun σ H Q ⟨ρ, cs, st, d, st', sl, so, e, k⟩ => by
    obtain ⟨x, s1, e1, e2⟩ := bind_some e
    refine ⟨ρ, cs, st, x, s1, sl, so, e1, fun v H1 c1 x1 so1 q1 => ?_⟩
    split at e2
    · refine ⟨true, dq_bool q1, ?_⟩
      rw [if_pos rfl]
      exact ⟨ρ, c1, s1, d, st', x1.slots so.lv sl, so1, e2, fun v' H2 c2 x2 so2 q2 => k v' H2 c2 (x1.trans x2) so2 q2⟩
    · obtain ⟨rfl, rfl⟩ := pure_some e2
      refine ⟨false, dq_bool q1, ?_⟩
      rw [if_neg Bool.false_ne_true]
      exact k _ H1 c1 x1 so1 (.bl false)
    · exact (fail_some e2).elim
theorem s_or {rest : List Expr} {f1 f2 : XE} (ha : PE X a (tE X.K f1)) (hb : PE X (.BoolOp .Or (b :: rest) pos) (tE X.K f2)) : PE X (.BoolOp .Or (a :: b :: rest) pos) (tE X.K (orX f1 f2)) :=
  (pe_or ha hb).imp fun σ H Q ⟨ρ, cs, st, d, st', sl, so, e, k⟩ => by
    obtain ⟨x, s1, e1, e2⟩ := bind_some e
    refine ⟨ρ, cs, st, x, s1, sl, so, e1, fun v H1 c1 x1 so1 q1 => ?_⟩
    split at e2
    · refine ⟨false, dq_bool q1, ?_⟩
      rw [if_neg Bool.false_ne_true]
      exact ⟨ρ, c1, s1, d, st', x1.slots so.lv sl, so1, e2, fun v' H2 c2 x2 so2 q2 => k v' H2 c2 (x1.trans x2) so2 q2⟩
    · obtain ⟨rfl, rfl⟩ := pure_some e2
      refine ⟨true, dq_bool q1, ?_⟩
      rw [if_pos rfl]
      exact k _ H1 c1 x1 so1 (.bl true)
    · exact (fail_some e2).elim
theorem s_one {op : BoolOp} {f1 : XE} (ha : PE X a (tE X.K f1)) : PE X (.BoolOp op [a] pos) (tE X.K f1) := pe_one ha
theorem s_not {f1 : XE} (ha : PE X a (tE X.K f1)) : PE X (.UnaryOp .Not a pos) (tE X.K (notX f1)) := (pe_not ha).imp fun σ H Q ⟨ρ, cs, st, d, st', sl, so, e, k⟩ => by
  obtain ⟨x, s1, e1, e2⟩ := bind_some e
  refine ⟨ρ, cs, st, x, s1, sl, so, e1, fun v H1 c1 x1 so1 q1 => ?_⟩
  split at e2
  · rename_i b
    obtain ⟨rfl, rfl⟩ := pure_some e2
    exact ⟨b, dq_bool q1, k _ H1 c1 x1 so1 (.bl (!b))⟩
  · exact (fail_some e2).elim
/-- as tests -/
def andB (f1 f2 : XB) : XB := fun ρ => do let b ← f1 ρ; if b = true then f2 ρ else pure false
def orB (f1 f2 : XB) : XB := fun ρ => do let b ← f1 ρ; if b = true then pure true else f2 ρ
def notB (f1 : XB) : XB := fun ρ => do let b ← f1 ρ; pure (!b)
theorem s_tnot {f1 : XB} (ha : PT X a (tT X.K f1)) : PT X (.UnaryOp .Not a pos) (tT X.K (notB f1)) := (pt_not ha).imp fun σ H Q ⟨ρ, cs, st, d, st', sl, so, e, k⟩ => by
  obtain ⟨x, s1, e1, e2⟩ := bind_some e
  obtain ⟨rfl, rfl⟩ := pure_some e2
  exact ⟨ρ, cs, st, x, s1, sl, so, e1, fun H1 c1 x1 so1 => k H1 c1 x1 so1⟩
theorem s_wand1 {f1 : XB} (ha : PT X a (tT X.K f1)) : PW X (.BoolOp .And [a] pos) (tT X.K f1) := pw_and1 ha
theorem s_wor1 {f1 : XB} (ha : PT X a (tT X.K f1)) : PW X (.BoolOp .Or [a] pos) (tT X.K f1) := pw_or1 ha
theorem s_wand {rest : List Expr} {f1 f2 : XB} (ha : PT X a (tT X.K f1)) (hb : PW X (.BoolOp .And (b :: rest) pos) (tT X.K f2)) : PW X (.BoolOp .And (a :: b :: rest) pos) (tT X.K (andB f1 f2)) :=
  (pw_and ha hb).imp fun σ H Q ⟨ρ, cs, st, d, st', sl, so, e, k⟩ => by
    obtain ⟨x, s1, e1, e2⟩ := bind_some e
    refine ⟨ρ, cs, st, x, s1, sl, so, e1, fun H1 c1 x1 so1 => ?_⟩
    cases x with
    | true => exact ⟨ρ, c1, s1, d, st', x1.slots so.lv sl, so1, e2, fun H2 c2 x2 so2 => k H2 c2 (x1.trans x2) so2⟩
    | false =>
      obtain ⟨rfl, rfl⟩ := pure_some e2
      exact k H1 c1 x1 so1
theorem s_wor {rest : List Expr} {f1 f2 : XB} (ha : PT X a (tT X.K f1)) (hb : PW X (.BoolOp .Or (b :: rest) pos) (tT X.K f2)) : PW X (.BoolOp .Or (a :: b :: rest) pos) (tT X.K (orB f1 f2)) :=
  (pw_or ha hb).imp fun σ H Q ⟨ρ, cs, st, d, st', sl, so, e, k⟩ => by
    obtain ⟨x, s1, e1, e2⟩ := bind_some e
    refine ⟨ρ, cs, st, x, s1, sl, so, e1, fun H1 c1 x1 so1 => ?_⟩
    cases x with
    | false => exact ⟨ρ, c1, s1, d, st', x1.slots so.lv sl, so1, e2, fun H2 c2 x2 so2 => k H2 c2 (x1.trans x2) so2⟩
    | true =>
      obtain ⟨rfl, rfl⟩ := pure_some e2
      exact k H1 c1 x1 so1
def iteX (fc : XB) (f1 f2 : XE) : XE := fun ρ => do let b ← fc ρ; if b = true then f1 ρ else f2 ρ
theorem s_ite {fc : XB} {f1 f2 : XE} (hc : PT X c (tT X.K fc)) (ha : PE X a (tE X.K f1)) (hb : PE X b (tE X.K f2)) : PE X (.IfExp c a b pos) (tE X.K (iteX fc f1 f2)) :=
  (pe_ifExp hc ha hb).imp fun σ H Q ⟨ρ, cs, st, d, st', sl, so, e, k⟩ => by
    obtain ⟨x, s1, e1, e2⟩ := bind_some e
    refine ⟨ρ, cs, st, x, s1, sl, so, e1, fun H1 c1 x1 so1 => ?_⟩
    cases x with
    | true =>
      rw [if_pos rfl]
      exact ⟨ρ, c1, s1, d, st', x1.slots so.lv sl, so1, e2, fun v H2 c2 x2 so2 q => k v H2 c2 (x1.trans x2) so2 q⟩
    | false =>
      rw [if_neg Bool.false_ne_true]
      exact ⟨ρ, c1, s1, d, st', x1.slots so.lv sl, so1, e2, fun v H2 c2 x2 so2 q => k v H2 c2 (x1.trans x2) so2 q⟩

/-! ### displays -/
def nilX : Rho → M (List PyData) := fun _ => pure []
def consX (f : XE) (r : Rho → M (List PyData)) : Rho → M (List PyData) := fun ρ => do let x ← f ρ; let xs ← r ρ; pure (x :: xs)
theorem s_nil : PA X [] (tA X.K nilX) := pa_nil.imp fun σ H Q ⟨ρ, cs, st, d, st', sl, so, e, k⟩ => by
  obtain ⟨rfl, rfl⟩ := pure_some e
  exact k [] H cs .refl so .nil
theorem s_cons {es : List Expr} {f : XE} {r : Rho → M (List PyData)} (ha : PE X e (tE X.K f)) (hr : PA X es (tA X.K r)) (hs : starEach (e :: es) X.env = (false, eval e X.env) :: starEach es X.env) : PA X (e :: es) (tA X.K (consX f r)) :=
  (pa_cons ha hr hs).imp fun σ H Q ⟨ρ, cs, st, d, st', sl, so, e, k⟩ => by
    obtain ⟨x, s1, e1, e'⟩ := bind_some e
    obtain ⟨xs, s2, e2, e3⟩ := bind_some e'
    obtain ⟨rfl, rfl⟩ := pure_some e3
    exact ⟨ρ, cs, st, x, s1, sl, so, e1, fun v H1 c1 x1 so1 q1 => ⟨ρ, c1, s1, xs, s2, x1.slots so.lv sl, so1, e2, fun vs H2 c2 x2 so2 q2 => k _ H2 c2 (x1.trans x2) so2 (.cons (x2.dq q1) q2)⟩⟩
theorem same_new {H : Hp} {p : Addr} {o : HO} (h : H p = none) : Same H (upd H p o) := fun b u e => by
  rw [upd_ne (ne_of_none e h)]; exact e
/-- a new list, a new tuple of items -/
theorem new_lst {H : Hp} {cs : CS} {p : Addr} {xs : List V} {ds : List PyData} (lv : LvOk H cs) (h : H p = none) (r : DqAll H cs xs ds) : Dq (upd H p (.lst xs)) cs (.ref p) (.list ds) :=
  .lst upd_same (lv.fresh h) (r.mono (fun a o e _ => same_new h a o e) fun _ _ _ l => l)
theorem new_tup {H : Hp} {cs : CS} {p : Addr} {xs : List V} {ds : List PyData} (lv : LvOk H cs) (h : H p = none) (r : DqAll H cs xs ds) : Dq (upd H p (.tup xs)) cs (.ref p) (.tuple ds) :=
  .tup upd_same (lv.fresh h) (r.mono (fun a o e _ => same_new h a o e) fun _ _ _ l => l)
def fits {α : Type} (xs : List α) : Bool := decide (xs.length ≤ sizeLine)
def tupX (r : Rho → M (List PyData)) : XE := fun ρ => do let xs ← r ρ; if fits xs = true then pure (.tuple xs) else fail
def lstX (r : Rho → M (List PyData)) : XE := fun ρ => do let xs ← r ρ; if fits xs = true then pure (.list xs) else fail
theorem s_tup {es : List Expr} {j : Nat} {r : Rho → M (List PyData)} (h : PA X es (tA X.K r)) : PE X (.Tuple es j pos) (tE X.K (tupX r)) := (pe_tup h).imp fun σ H Q ⟨ρ, cs, st, d, st', sl, so, e, k⟩ => by
  obtain ⟨xs, s1, e1, e2⟩ := bind_some e
  split at e2
  · rename_i hf
    obtain ⟨rfl, rfl⟩ := pure_some e2
    refine ⟨ρ, cs, st, xs, s1, sl, so, e1, fun vs H1 c1 x1 so1 q1 => ⟨by rw [q1.length]; exact of_decide_eq_true hf, fun p hp => ?_⟩⟩
    exact k _ _ c1 (x1.trans (Ext.same (same_new hp))) (so1.same (same_new hp)) (new_tup so1.lv hp q1)
  · exact (fail_some e2).elim
theorem s_lst {es : List Expr} {r : Rho → M (List PyData)} (h : PA X es (tA X.K r)) : PE X (.List es pos) (tE X.K (lstX r)) := (pe_lst h).imp fun σ H Q ⟨ρ, cs, st, d, st', sl, so, e, k⟩ => by
  obtain ⟨xs, s1, e1, e2⟩ := bind_some e
  split at e2
  · rename_i hf
    obtain ⟨rfl, rfl⟩ := pure_some e2
    refine ⟨ρ, cs, st, xs, s1, sl, so, e1, fun vs H1 c1 x1 so1 q1 => ⟨by rw [q1.length]; exact of_decide_eq_true hf, fun p hp => ?_⟩⟩
    exact k _ _ c1 (x1.trans (Ext.same (same_new hp))) (so1.same (same_new hp)) (new_lst so1.lv hp q1)
  · exact (fail_some e2).elim

/-! ### items, slices -/
theorem s_ix {r : R2} {g : PyData → PyData → Option PyData} {f1 f2 : XE} (hi : IxR X r) (hr : OpD X.K r g) (ha : PE X a (tE X.K f1)) (hb : PE X b (tR X.K f2)) (hs : PlainIx b) : PE X (.Subscript a b pos) (tE X.K (bin2 g f1 f2)) :=
  (pe_ix hi ha hb hs).imp fun σ H Q h => two hr (fun _ _ _ h => h) (fun _ _ _ h => h) h
/-- an item of the list that may change in slot i, as it stands when the index is known -/
def cixX (i : Nat) (f : XE) : XE := fun ρ => do
  let y ← f ρ
  let ds ← rdC i ρ
  match y with
  | .int j => ofOpt (atI ds j)
  | _ => fail
theorem s_cix {i : Nat} {f : XE} (ha : PE X a (tVar i)) (hb : PE X b (tE X.K f)) (hs : PlainIx b) : PE X (.Subscript a b pos) (tE X.K (cixX i f)) := (pe_ix ix_list ha hb hs).imp fun σ H Q ⟨ρ, cs, st, d, st', sl, so, e, k⟩ => by
  obtain ⟨y, s1, e1, e'⟩ := bind_some e
  obtain ⟨ds, s2, e2, e3⟩ := bind_some e'
  split at e3
  · rename_i j
    obtain ⟨e5, rfl⟩ := ofOpt_some e3
    have look : ∃ v, σ[i]? = some (some v) := by
      unfold rdC at e2
      split at e2
      · rename_i n e4
        obtain ⟨v, q, _⟩ := sl.at_ i _ e4
        exact ⟨v, q⟩
      · rename_i n e4
        obtain ⟨v, q, _⟩ := sl.at_ i _ e4
        exact ⟨v, q⟩
      · cases e2
    obtain ⟨v, ev⟩ := look
    refine ⟨v, ev, ρ, cs, st, .int j, s1, sl, so, e1, fun u H1 c1 x1 so1 q1 => ?_⟩
    obtain ⟨rfl, p, xs, ep, hq, r⟩ := rdC_at (x1.slots so.lv sl) so1 e2
    rw [ev] at ep
    cases ep
    have hix : ∃ n, ixN ds.length j = some n ∧ ds[n]? = some d := by
      unfold atI at e5
      cases q : ixN ds.length j with
      | none => rw [q] at e5; cases e5
      | some n => rw [q] at e5; exact ⟨n, rfl, e5⟩
    obtain ⟨n, h1, h2⟩ := hix
    obtain ⟨z, h3, h4⟩ := r.get h2
    exact ⟨p, xs, j, z, rfl, dq_int q1, hq, (by unfold atI; rw [r.length, h1]; exact h3), k z H1 c1 x1 so1 h4⟩
  · exact (fail_some e3).elim
theorem atI_all {H : Hp} {cs : CS} {xs : List V} {ds : List PyData} {j : Int} {d : PyData} (r : DqAll H cs xs ds) (h : atI ds j = some d) : ∃ z, atI xs j = some z ∧ Dq H cs z d := by
  unfold atI at h
  cases q : ixN ds.length j with
  | none => rw [q] at h; cases h
  | some n =>
    rw [q] at h
    obtain ⟨z, h3, h4⟩ := r.get h
    exact ⟨z, by unfold atI; rw [r.length, q]; exact h3, h4⟩
def ixD : PyData → PyData → Option PyData
  | .list ds, .int j => atI ds j
  | .tuple ds, .int j => atI ds j
  | .str z, .int j => if z.length ≤ sizeLine then (atI z.cps.toList j).map fun c => .str ⟨#[c]⟩ else none
  | _, _ => none
theorem dq_list {K : PySem.W.Frag} {H : Hp} {cs : CS} {v : V} {ds : List PyData} (h : Dr K H cs v (.list ds)) : ∃ a xs, v = .ref a ∧ SqL K H a xs ∧ DqAll H cs xs ds := by
  rcases h with h | ⟨a, xs, ds', rfl, e, q, r⟩
  · cases h with
    | lst e l r => exact ⟨_, _, rfl, SqL.of e, r⟩
  · cases e
    exact ⟨a, xs, rfl, q, r⟩
theorem dq_tup {K : PySem.W.Frag} {H : Hp} {cs : CS} {v : V} {ds : List PyData} (h : Dr K H cs v (.tuple ds)) : ∃ a xs, v = .ref a ∧ H a = some (.tup xs) ∧ ¬ Live cs a ∧ DqAll H cs xs ds := by
  rcases h with h | ⟨a, xs, ds', rfl, e, q, r⟩
  · cases h with
    | tup e l r => exact ⟨_, _, rfl, e, l, r⟩
  · cases e
theorem dq_str {K : PySem.W.Frag} {H : Hp} {cs : CS} {v : V} {z : Str} (h : Dr K H cs v (.str z)) : v = .str z := by
  rcases h with h | ⟨a, xs, ds', rfl, e, q, r⟩
  · cases h; rfl
  · cases e
theorem ix_d {K : PySem.W.Frag} : OpD K (rIx K) ixD := by
  intro H cs x y d e z Q lv hx hy hg k
  unfold ixD at hg
  split at hg
  · obtain ⟨a, xs, rfl, hq, r⟩ := dq_list hx
    obtain ⟨u, h1, h2⟩ := atI_all r hg
    exact .inl ⟨a, xs, _, u, rfl, dr_int hy, hq, h1, k u H (Same.refl H) h2⟩
  · obtain ⟨a, xs, rfl, hq, l, r⟩ := dq_tup hx
    obtain ⟨u, h1, h2⟩ := atI_all r hg
    exact .inr (.inl ⟨a, xs, _, u, rfl, dr_int hy, SqT.of hq, h1, k u H (Same.refl H) h2⟩)
  · split at hg
    · rename_i zz j hz
      cases q : atI zz.cps.toList j with
      | none => rw [q] at hg; cases hg
      | some c =>
        rw [q] at hg
        cases hg
        exact .inr (.inr ⟨zz, j, c, dq_str hx, dr_int hy, hz, q, k _ H (Same.refl H) (.str _)⟩)
    · cases hg
  · cases hg
end
end EF

set_option Elab.async false
set_option linter.all false
set_option maxRecDepth 100000
/-! EF3: what is walked, list comprehensions. -/
namespace EF
open PySem PySem.Spec PyProof.Rows L2

/-- what slots and walks lean on stays -/
structure Frm (H : Hp) (cs : CS) (H' : Hp) (cs' : CS) : Prop where
  keep : ∀ a o, H a = some o → ¬ Live cs a → H' a = some o
  nlive : ∀ a o, H a = some o → ¬ Live cs a → ¬ Live cs' a
  len : cs.c.length ≤ cs'.c.length
  old : ∀ (n : Nat) (a : Addr), n < cs.c.length → cs'.c[n]? = some (some a) → cs.c[n]? = some (some a)
section
variable {K : PySem.W.Frag} {H H' H1 : Hp} {cs cs' c1 : CS} {σ : L2.St} {ρ : Rho} {st : Sto}
theorem Ext.frm (e : Ext H cs H' cs') : Frm H cs H' cs' := ⟨fun a o h l => e.keep a o h fun z => l (.inl z), e.nlive, e.len, e.old⟩
theorem Frm.refl : Frm H cs H cs := Ext.refl.frm
theorem Frm.trans (a : Frm H cs H1 c1) (b : Frm H1 c1 H' cs') : Frm H cs H' cs' :=
  ⟨fun x o h l => b.keep x o (a.keep x o h l) (a.nlive x o h l), fun x o h l => b.nlive x o (a.keep x o h l) (a.nlive x o h l), Nat.le_trans a.len b.len, fun n x h e => a.old n x h (b.old n x (Nat.lt_of_lt_of_le h a.len) e)⟩
theorem Frm.dq (e : Frm H cs H' cs') {v : V} {d : PyData} (h : Dq H cs v d) : Dq H' cs' v d := h.mono e.keep e.nlive
theorem Frm.dqs (e : Frm H cs H' cs') {v : List V} {d : List PyData} (h : DqAll H cs v d) : DqAll H' cs' v d := h.mono e.keep e.nlive
theorem Frm.rw (lv : LvOk H cs) (e : Frm H cs H' cs') {v : V} {w : W} (h : RW K H cs v w) : RW K H' cs' v w := by
  cases w with
  | d x => exact e.dq h
  | c n =>
    obtain ⟨a, e1, hn, hb⟩ := h
    exact ⟨a, e1, Nat.lt_of_lt_of_le hn e.len, fun b q => hb b (e.old n b hn q)⟩
  | s xs =>
    obtain ⟨a, e1, q⟩ := h
    refine ⟨a, e1, ?_⟩
    rcases q with ⟨o, q⟩ | q
    · refine .inl ⟨o, e.keep _ _ q fun l => ?_⟩
      obtain ⟨ys, z⟩ := lv a l
      rw [q] at z; cases z
    · exact .inr q
theorem Frm.slots (lv : LvOk H cs) (e : Frm H cs H' cs') (s : Slots K σ H ρ cs) : Slots K σ H' ρ cs' :=
  ⟨s.len, fun i w h => by
    obtain ⟨v, q1, q2⟩ := s.at_ i w h
    exact ⟨v, q1, e.rw lv q2⟩⟩
/-- with D a list that is being made -/
abbrev CS.res (cs : CS) (D : Addr) : CS := ⟨cs.c, D :: cs.r⟩
theorem frm_res {D : Addr} {o : HO} (h : H D = none) : Frm H cs (upd H D o) (cs.res D) :=
  ⟨fun a o e _ => by rw [upd_ne (ne_of_none e h)]; exact e, fun a o e l q => by
    rcases q with q | q
    · exact l (.inl q)
    · rcases List.mem_cons.mp q with z | z
      · exact ne_of_none e h z
      · exact l (.inr z), Nat.le_refl _, fun _ _ _ e => e⟩
theorem frm_own {D : Addr} {o : HO} (h : D ∈ cs.r) : Frm H cs (upd H D o) cs :=
  ⟨fun a o e l => by
    have ne : a ≠ D := fun z => l (.inr (by rw [z]; exact h))
    rw [upd_ne ne]; exact e, fun a o e l => l, Nat.le_refl _, fun _ _ _ e => e⟩
theorem frm_unres {D : Addr} : Frm H (cs.res D) H cs :=
  ⟨fun a o e _ => e, fun a o e l q => l (q.elim .inl fun z => .inr (List.mem_cons_of_mem _ z)), Nat.le_refl _, fun _ _ _ e => e⟩
theorem StoOk.start {D : Addr} (s : StoOk H cs st) (h : H D = none) : StoOk (upd H D (.lst [])) (cs.res D) st :=
  ⟨s.len, fun n a e => by
    obtain ⟨xs, ds, q1, q2, q3⟩ := s.at_ n a e
    exact ⟨xs, ds, by rw [upd_ne (ne_of_none q1 h)]; exact q1, q2, (frm_res h).dqs q3⟩, s.has, s.inj, fun a q => by
    rcases List.mem_cons.mp q with z | z
    · subst z
      exact ⟨fun q => s.lv.fresh h (.inl q), [], upd_same⟩
    · obtain ⟨q1, xs, q2⟩ := s.res a z
      exact ⟨q1, xs, by rw [upd_ne (ne_of_none q2 h)]; exact q2⟩⟩
theorem StoOk.own {D : Addr} {xs : List V} (s : StoOk H cs st) (h : D ∈ cs.r) : StoOk (upd H D (.lst xs)) cs st :=
  ⟨s.len, fun n a e => by
    obtain ⟨ys, ds, q1, q2, q3⟩ := s.at_ n a e
    have ne : a ≠ D := fun z => (s.res D h).1 (z ▸ List.mem_of_getElem? e)
    exact ⟨ys, ds, by rw [upd_ne ne]; exact q1, q2, (frm_own h).dqs q3⟩, s.has, s.inj, fun a q => by
    obtain ⟨q1, ys, q2⟩ := s.res a q
    by_cases z : a = D
    · subst z; exact ⟨q1, xs, upd_same⟩
    · exact ⟨q1, ys, by rw [upd_ne z]; exact q2⟩⟩
theorem StoOk.unres {D : Addr} (s : StoOk H (cs.res D) st) : StoOk H cs st :=
  ⟨s.len, fun n a e => by
    obtain ⟨ys, ds, q1, q2, q3⟩ := s.at_ n a e
    exact ⟨ys, ds, q1, q2, frm_unres.dqs q3⟩, s.has, s.inj, fun a q => s.res a (List.mem_cons_of_mem _ q)⟩
end

/-! ### what is walked -/
/-- the items, and what has to hold of the store at each turn -/
abbrev XI := Rho → M (List PyData × (Sto → Prop))
structure Wk (K : PySem.W.Frag) (J : It) (ds : List PyData) (gd : Sto → Prop) (G : Hp → CS → Prop) : Prop where
  stay : ∀ H cs H' cs', G H cs → Frm H cs H' cs' → G H' cs'
  go : ∀ i H cs st, i < ds.length → G H cs → StoOk H cs st → gd st → J.go i H
  stop : ∀ H cs st, G H cs → StoOk H cs st → gd st → J.stop ds.length H
  yld : ∀ i H cs st x H', i < ds.length → G H cs → StoOk H cs st → gd st → J.yld i H x H' → Same H H' ∧ ∃ d, ds[i]? = some d ∧ Dq H' cs x d
def tI (K : PySem.W.Frag) (f : XI) : TI := fun σ H R => ∃ ρ cs st ds gd st', Slots K σ H ρ cs ∧ StoOk H cs st ∧ f ρ st = some ((ds, gd), st') ∧
  ∀ J H' cs' G, Ext H cs H' cs' → StoOk H' cs' st' → Wk K J ds gd G → G H' cs' → R J H'
section
variable {X : Cx} {tg iter : Expr} {pos : Pos}
theorem _root_.L2.PI.imp {wi wi' : TI} (h : PI X tg iter wi) (k : ∀ σ H R, wi' σ H R → wi σ H R) : PI X tg iter wi' := ⟨fun pins s σ H R I hw => h.run pins s σ H R I (k σ H R hw)⟩
/-- a list or a tuple -/
def iAny (K : PySem.W.Frag) (tl : TE) : TI := fun σ H R => tl σ H fun x H1 => ∃ a, x = .ref a ∧ (((∃ xs, SqL K H1 a xs) ∧ R (Itl K a) H1) ∨ ((∃ xs, SqT K H1 a xs) ∧ R (Itt K a) H1))
theorem pi_any {l : Expr} {tl : TE} (hl : PE X l tl) : PI X tg l (iAny X.K tl) := by
  refine ⟨fun pins s σ H R I h => thn (hl.run pins s σ H _ I h) ?_⟩
  rintro v s1 ⟨x, H1, J1, r1, a, rfl, q⟩
  cases r1
  have place : ∀ b ∈ [s1.heap.objs.size], FpOk X pins H1 b := fun b hb => by
    rw [List.mem_singleton] at hb
    subst hb
    exact J1.fpOk (Nat.le_refl _) (J1.hok.fresh (Nat.le_refl _))
  rcases q with ⟨⟨xs, hq⟩, q⟩ | ⟨⟨xs, hq⟩, q⟩
  · obtain ⟨its, rv, p, hz⟩ := J1.list hq
    exact wpAny_pyIter_list p.isList ⟨_, _, _, _, H1, rfl, J1.kept (t' := s1.toks) fun b o e => Heap.get?_push_of_some _ e, turn_list a _, ⟨_, Heap.get?_push_size _ rfl, rfl, rfl⟩, place, q⟩
  · obtain ⟨its, rv, p, hz⟩ := J1.tuple hq
    exact wpAny_pyIter_tuple (show s1.heap.IsTuple a its.toArray from p) ⟨_, _, _, _, H1, rfl, J1.kept (t' := s1.toks) fun b o e => Heap.get?_push_of_some _ e, turn_tuple a _, ⟨_, Heap.get?_push_size _ rfl, rfl, rfl⟩, place, q⟩
def seqOf : PyData → Option (List PyData)
  | .list ds => some ds
  | .tuple ds => some ds
  | _ => none
def anyI (f : XE) : XI := fun ρ => do let x ← f ρ; let ds ← ofOpt (seqOf x); pure (ds, fun _ => True)
theorem wk_list {K : PySem.W.Frag} {a : Addr} {ds : List PyData} : Wk K (Itl K a) ds (fun _ => True) (fun H cs => ∃ xs, H a = some (.lst xs) ∧ ¬ Live cs a ∧ DqAll H cs xs ds) where
  stay := fun H cs H' cs' ⟨xs, h, l, r⟩ f => ⟨xs, f.keep _ _ h l, f.nlive _ _ h l, f.dqs r⟩
  go := fun i H cs st hi ⟨xs, h, l, r⟩ _ _ => by
    obtain ⟨v, e, _⟩ := r.get (List.getElem?_eq_getElem hi)
    exact ⟨xs, v, SqL.of h, e⟩
  stop := fun H cs st ⟨xs, h, l, r⟩ _ _ => ⟨xs, SqL.of h, Nat.le_of_eq r.length⟩
  yld := fun i H cs st x H' hi ⟨xs, h, l, r⟩ _ _ ⟨e, y⟩ => by
    subst e
    obtain ⟨v, e, q⟩ := r.get (List.getElem?_eq_getElem hi)
    rw [y xs (SqL.of h)] at e
    cases e
    exact ⟨Same.refl _, _, List.getElem?_eq_getElem hi, q⟩
theorem wk_tup {K : PySem.W.Frag} {a : Addr} {ds : List PyData} : Wk K (Itt K a) ds (fun _ => True) (fun H cs => ∃ xs, H a = some (.tup xs) ∧ ¬ Live cs a ∧ DqAll H cs xs ds) where
  stay := fun H cs H' cs' ⟨xs, h, l, r⟩ f => ⟨xs, f.keep _ _ h l, f.nlive _ _ h l, f.dqs r⟩
  go := fun i H cs st hi ⟨xs, h, l, r⟩ _ _ => by
    obtain ⟨v, e, _⟩ := r.get (List.getElem?_eq_getElem hi)
    exact ⟨xs, v, SqT.of h, e⟩
  stop := fun H cs st ⟨xs, h, l, r⟩ _ _ => ⟨xs, SqT.of h, Nat.le_of_eq r.length⟩
  yld := fun i H cs st x H' hi ⟨xs, h, l, r⟩ _ _ ⟨e, y⟩ => by
    subst e
    obtain ⟨v, e, q⟩ := r.get (List.getElem?_eq_getElem hi)
    rw [y xs (SqT.of h)] at e
    cases e
    exact ⟨Same.refl _, _, List.getElem?_eq_getElem hi, q⟩
theorem s_iter {l : Expr} {f : XE} (hl : PE X l (tE X.K f)) : PI X tg l (tI X.K (anyI f)) := (pi_any hl).imp fun σ H R ⟨ρ, cs, st, ds, gd, st', sl, so, e, k⟩ => by
  obtain ⟨x, s1, e1, e'⟩ := bind_some e
  obtain ⟨ds', s2, e2', e3⟩ := bind_some e'
  obtain ⟨e2, rfl⟩ := ofOpt_some e2'
  obtain ⟨h3, rfl⟩ := pure_some e3
  cases h3
  refine ⟨ρ, cs, st, x, s1, sl, so, e1, fun v H1 c1 x1 so1 q1 => ?_⟩
  unfold seqOf at e2
  split at e2
  · cases e2
    cases q1 with
    | lst h l r => exact ⟨_, rfl, .inl ⟨⟨_, SqL.of h⟩, k _ H1 c1 _ x1 so1 wk_list ⟨_, h, l, r⟩⟩⟩
  · cases e2
    cases q1 with
    | tup h l r => exact ⟨_, rfl, .inr ⟨⟨_, SqT.of h⟩, k _ H1 c1 _ x1 so1 wk_tup ⟨_, h, l, r⟩⟩⟩
  · cases e2
/-- the list that may change in slot i, as long as it does not -/
def cellI (i : Nat) : XI := fun ρ => do
  let ds ← rdC i ρ
  pure (ds, fun st => rdC i ρ st = some (ds, st))
/-- the list of a slot lies at a -/
def CellIs (K : PySem.W.Frag) (a : Addr) (w : W) (H : Hp) (cs : CS) : Prop := match w with
  | .c n => n < cs.c.length ∧ ∀ b, cs.c[n]? = some (some b) → b = a
  | .s xs => (∃ o, H a = some (.frz o (.lst (xs.map V.int))) ∧ ¬ Live cs a) ∨ SqL K (fun _ => none) a (xs.map V.int)
  | .d _ => False
theorem CellIs.frm {K : PySem.W.Frag} {a : Addr} {w : W} {H H' : Hp} {cs cs' : CS} (h : CellIs K a w H cs) (f : Frm H cs H' cs') : CellIs K a w H' cs' := by
  cases w with
  | d x => exact h
  | c n => exact ⟨Nat.lt_of_lt_of_le h.1 f.len, fun b q => h.2 b (f.old n b h.1 q)⟩
  | s xs =>
    rcases h with ⟨o, h, l⟩ | h
    · exact .inl ⟨o, f.keep _ _ h l, f.nlive _ _ h l⟩
    · exact .inr h
theorem CellIs.rd {K : PySem.W.Frag} {a : Addr} {w : W} {H : Hp} {cs : CS} {i : Nat} {ρ : Rho} {st st' : Sto} {ds : List PyData} (h : CellIs K a w H cs) (hr : ρ[i]? = some (some w)) (so : StoOk H cs st) (e : rdC i ρ st = some (ds, st')) :
    ∃ xs, SqL K H a xs ∧ DqAll H cs xs ds := by
  unfold rdC at e
  rw [hr] at e
  cases w with
  | d x => exact h.elim
  | c n =>
    have e' : (match st[n]? with | some (some ds) => some (ds, st) | _ => none) = some (ds, st') := e
    split at e'
    · rename_i ds' e2
      cases e'
      obtain ⟨b, eb⟩ := so.has n _ e2
      obtain rfl := h.2 b eb
      obtain ⟨xs, ds2, q1, q2, q3⟩ := so.at_ n b eb
      rw [e2] at q2
      cases q2
      exact ⟨xs, SqL.of q1, q3⟩
    · cases e'
  | s xs =>
    have e' : some (xs.map PyData.int, st) = some (ds, st') := e
    cases e'
    refine ⟨_, ?_, ints_dq xs⟩
    rcases h with ⟨o, h, l⟩ | (h | h) | h
    · exact .inl (.inr ⟨o, h⟩)
    · cases h
    · obtain ⟨_, h⟩ := h; cases h
    · exact .inr h
theorem CellIs.of {K : PySem.W.Frag} {σ : L2.St} {H : Hp} {ρ : Rho} {cs : CS} {i : Nat} {st st' : Sto} {ds : List PyData} (sl : Slots K σ H ρ cs) (lv : LvOk H cs) (e : rdC i ρ st = some (ds, st')) :
    ∃ a w, ρ[i]? = some (some w) ∧ σ[i]? = some (some (.ref a)) ∧ CellIs K a w H cs := by
  unfold rdC at e
  split at e
  · rename_i n e1
    obtain ⟨v, e2, a, rfl, h⟩ := sl.at_ i _ e1
    exact ⟨a, _, e1, e2, h⟩
  · rename_i xs e1
    obtain ⟨v, e2, a, rfl, h⟩ := sl.at_ i _ e1
    refine ⟨a, _, e1, e2, ?_⟩
    rcases h with ⟨o, h⟩ | h
    · refine .inl ⟨o, h, fun l => ?_⟩
      obtain ⟨ys, z⟩ := lv a l
      rw [h] at z; cases z
    · exact .inr h
  · cases e
theorem rdC_st {i : Nat} {ρ : Rho} {st st' : Sto} {ds : List PyData} (e : rdC i ρ st = some (ds, st')) : st = st' := by
  unfold rdC at e
  split at e
  · split at e
    · cases e; rfl
    · cases e
  · cases e; rfl
  · cases e
theorem s_itercell {l : Expr} {i : Nat} (hl : PE X l (tVar i)) : PI X tg l (tI X.K (cellI i)) := (pi_list hl).imp fun σ H R ⟨ρ, cs, st, ds, gd, st', sl, so, e, k⟩ => by
  obtain ⟨ds', s1, e1, e'⟩ := bind_some e
  obtain ⟨h3, rfl⟩ := pure_some e'
  cases h3
  obtain rfl := rdC_st e1
  obtain ⟨a, w, hr, ea, hc⟩ := CellIs.of sl so.lv e1
  obtain ⟨xs, hq, r⟩ := hc.rd hr so e1
  refine ⟨_, ea, a, rfl, ⟨xs, hq⟩, k _ H cs (CellIs X.K a w) .refl so ⟨fun _ _ _ _ h f => h.frm f, ?_, ?_, ?_⟩ hc⟩
  · intro j H cs st hi h so gd
    obtain ⟨xs, hq, r⟩ := h.rd hr so gd
    obtain ⟨v, e, _⟩ := r.get (List.getElem?_eq_getElem hi)
    exact ⟨xs, v, hq, e⟩
  · intro H cs st h so gd
    obtain ⟨xs, hq, r⟩ := h.rd hr so gd
    exact ⟨xs, hq, Nat.le_of_eq r.length⟩
  · rintro j H cs st x H' hi h so gd ⟨e, y⟩
    subst e
    obtain ⟨xs, hq, r⟩ := h.rd hr so gd
    obtain ⟨v, e, q⟩ := r.get (List.getElem?_eq_getElem hi)
    rw [y xs hq] at e
    cases e
    exact ⟨Same.refl _, _, List.getElem?_eq_getElem hi, q⟩

/-! ### ranges, pairs -/
def rngD (n : Nat) (lo : Int) : List PyData := (List.range n).map fun (i : Nat) => .int (lo + (i : Int))
theorem rngD_len (n : Nat) (lo : Int) : (rngD n lo).length = n := by unfold rngD; rw [List.length_map, List.length_range]
theorem rngD_at {n i : Nat} {lo : Int} (h : i < n) : (rngD n lo)[i]? = some (.int (lo + (i : Int))) := by
  unfold rngD
  rw [List.getElem?_map, List.getElem?_range h]; rfl
theorem wk_rng {K : PySem.W.Frag} {lo : Int} {n : Nat} : Wk K (Itr lo n) (rngD n lo) (fun _ => True) (fun _ _ => True) where
  stay := fun _ _ _ _ _ _ => trivial
  go := fun i H cs st hi _ _ _ => by rw [rngD_len] at hi; exact hi
  stop := fun H cs st _ _ _ => by rw [rngD_len]; exact Nat.le_refl n
  yld := fun i H cs st x H' hi _ _ _ ⟨e, y⟩ => by
    subst e y
    rw [rngD_len] at hi
    exact ⟨Same.refl _, _, rngD_at hi, .int _⟩
def small (j : Int) : Bool := decide (-(2 ^ 62) ≤ j ∧ j < 2 ^ 62)
def rng1I (f : Rho → M (List PyData)) : XI := fun ρ => do
  let xs ← f ρ
  match xs with
  | [.int j] => if small j = true then pure (rngD j.toNat 0, fun _ => True) else fail
  | _ => fail
def rng2I (f : Rho → M (List PyData)) : XI := fun ρ => do
  let xs ← f ρ
  match xs with
  | [.int i, .int j] => if small i = true ∧ small j = true then pure (rngD (j - i).toNat i, fun _ => True) else fail
  | _ => fail
theorem s_rng1 {a : Expr} {f : Rho → M (List PyData)} {p : Pos} (hg : Gl X "range") (hm : X.mg "range" = none) (ha : PA X [a] (tA X.K f)) (hs : starEach [a] X.env = [(false, eval a X.env)]) :
    PI X tg (.Call (.Name "range" p) [a] [] pos) (tI X.K (rng1I f)) := (pi_range1 hg hm ha hs).imp fun σ H R ⟨ρ, cs, st, ds, gd, st', sl, so, e, k⟩ => by
  obtain ⟨xs, s1, e1, e2⟩ := bind_some e
  refine ⟨ρ, cs, st, xs, s1, sl, so, e1, fun vs H1 c1 x1 so1 q1 => ?_⟩
  split at e2
  · rename_i j
    split at e2
    · rename_i hj
      obtain ⟨h3, rfl⟩ := pure_some e2
      cases h3
      obtain ⟨h1, h2⟩ := of_decide_eq_true hj
      cases q1 with
      | cons qa qb =>
        cases qb
        cases dq_int qa
        exact ⟨j, rfl, h1, h2, k _ H1 c1 _ x1 so1 wk_rng trivial⟩
    · exact (fail_some e2).elim
  · exact (fail_some e2).elim
theorem s_rng2 {a b : Expr} {f : Rho → M (List PyData)} {p : Pos} (hg : Gl X "range") (hm : X.mg "range" = none) (ha : PA X [a, b] (tA X.K f)) (hs : starEach [a, b] X.env = [(false, eval a X.env), (false, eval b X.env)])
    (hs2 : starEach [b] X.env = [(false, eval b X.env)]) : PI X tg (.Call (.Name "range" p) [a, b] [] pos) (tI X.K (rng2I f)) := (pi_range2 hg hm ha hs hs2).imp fun σ H R ⟨ρ, cs, st, ds, gd, st', sl, so, e, k⟩ => by
  obtain ⟨xs, s1, e1, e2⟩ := bind_some e
  refine ⟨ρ, cs, st, xs, s1, sl, so, e1, fun vs H1 c1 x1 so1 q1 => ?_⟩
  split at e2
  · rename_i i j
    split at e2
    · rename_i hj
      obtain ⟨h3, rfl⟩ := pure_some e2
      cases h3
      obtain ⟨h1, h2⟩ := of_decide_eq_true hj.1
      obtain ⟨h4, h5⟩ := of_decide_eq_true hj.2
      cases q1 with
      | cons qa qb =>
        cases qb with
        | cons qb qc =>
          cases qc
          cases dq_int qa
          cases dq_int qb
          exact ⟨i, j, rfl, ⟨h1, h2, h4, h5⟩, k _ H1 c1 _ x1 so1 wk_rng trivial⟩
    · exact (fail_some e2).elim
  · exact (fail_some e2).elim
def zipD : List PyData → List PyData → List PyData
  | x :: xs, y :: ys => .tuple [x, y] :: zipD xs ys
  | _, _ => []
theorem zipD_len : ∀ xs ys : List PyData, (zipD xs ys).length = min xs.length ys.length
  | [], ys => by simp [zipD]
  | _ :: _, [] => by simp [zipD]
  | x :: xs, y :: ys => by simp only [zipD, List.length_cons, zipD_len xs ys]; omega
theorem zipD_at : ∀ {xs ys : List PyData} {i : Nat} {x y : PyData}, xs[i]? = some x → ys[i]? = some y → (zipD xs ys)[i]? = some (.tuple [x, y])
  | [], _, _, _, _, h, _ => by simp at h
  | _ :: _, [], _, _, _, _, h => by simp at h
  | a :: xs, b :: ys, 0, x, y, h1, h2 => by simp at h1 h2; subst h1 h2; rfl
  | a :: xs, b :: ys, i + 1, x, y, h1, h2 => by
    simp only [zipD, List.getElem?_cons_succ]
    exact zipD_at (by simpa using h1) (by simpa using h2)
theorem new_pair {H : Hp} {cs : CS} {p : Addr} {u v : V} {x y : PyData} (lv : LvOk H cs) (h : H p = none) (hx : Dq H cs u x) (hy : Dq H cs v y) : Dq (upd H p (.tup [u, v])) cs (.ref p) (.tuple [x, y]) := new_tup lv h (.cons hx (.cons hy .nil))
theorem wk_zipL {K : PySem.W.Frag} {a b : Addr} {ds es : List PyData} : Wk K (Itz K a b) (zipD ds es) (fun _ => True)
    (fun H cs => (∃ xs, H a = some (.lst xs) ∧ ¬ Live cs a ∧ DqAll H cs xs ds) ∧ ∃ ys, H b = some (.lst ys) ∧ ¬ Live cs b ∧ DqAll H cs ys es) where
  stay := fun H cs H' cs' ⟨⟨xs, h, l, r⟩, ⟨ys, h2, l2, r2⟩⟩ f => ⟨⟨xs, f.keep _ _ h l, f.nlive _ _ h l, f.dqs r⟩, ⟨ys, f.keep _ _ h2 l2, f.nlive _ _ h2 l2, f.dqs r2⟩⟩
  go := fun i H cs st hi ⟨⟨xs, h, l, r⟩, ⟨ys, h2, l2, r2⟩⟩ _ _ => by
    rw [zipD_len] at hi
    obtain ⟨v, e, _⟩ := r.get (List.getElem?_eq_getElem (show i < ds.length by omega))
    obtain ⟨u, e2, _⟩ := r2.get (List.getElem?_eq_getElem (show i < es.length by omega))
    exact ⟨xs, ys, v, u, SqL.of h, SqL.of h2, e, e2⟩
  stop := fun H cs st ⟨⟨xs, h, l, r⟩, ⟨ys, h2, l2, r2⟩⟩ _ _ => ⟨xs, ys, SqL.of h, SqL.of h2, by
    have := r.length
    have := r2.length
    rw [zipD_len]
    omega⟩
  yld := fun i H cs st x H' hi ⟨⟨xs, h, l, r⟩, ⟨ys, h2, l2, r2⟩⟩ so _ ⟨T, x0, y0, e, hT, e2, q1, q2⟩ => by
    subst e e2
    rw [zipD_len] at hi
    have g1 := List.getElem?_eq_getElem (show i < ds.length by omega)
    have g2 := List.getElem?_eq_getElem (show i < es.length by omega)
    obtain ⟨v, e, d1⟩ := r.get g1
    obtain ⟨u, e2, d2⟩ := r2.get g2
    rw [q1 xs (SqL.of h)] at e
    rw [q2 ys (SqL.of h2)] at e2
    cases e; cases e2
    exact ⟨same_new hT, _, zipD_at g1 g2, new_pair so.lv hT d1 d2⟩
theorem wk_zipT {K : PySem.W.Frag} {a b : Addr} {ds es : List PyData} : Wk K (RZ.ItzT K a b) (zipD ds es) (fun _ => True)
    (fun H cs => (∃ xs, H a = some (.tup xs) ∧ ¬ Live cs a ∧ DqAll H cs xs ds) ∧ ∃ ys, H b = some (.tup ys) ∧ ¬ Live cs b ∧ DqAll H cs ys es) where
  stay := fun H cs H' cs' ⟨⟨xs, h, l, r⟩, ⟨ys, h2, l2, r2⟩⟩ f => ⟨⟨xs, f.keep _ _ h l, f.nlive _ _ h l, f.dqs r⟩, ⟨ys, f.keep _ _ h2 l2, f.nlive _ _ h2 l2, f.dqs r2⟩⟩
  go := fun i H cs st hi ⟨⟨xs, h, l, r⟩, ⟨ys, h2, l2, r2⟩⟩ _ _ => by
    rw [zipD_len] at hi
    obtain ⟨v, e, _⟩ := r.get (List.getElem?_eq_getElem (show i < ds.length by omega))
    obtain ⟨u, e2, _⟩ := r2.get (List.getElem?_eq_getElem (show i < es.length by omega))
    exact ⟨xs, ys, v, u, SqT.of h, SqT.of h2, e, e2⟩
  stop := fun H cs st ⟨⟨xs, h, l, r⟩, ⟨ys, h2, l2, r2⟩⟩ _ _ => ⟨xs, ys, SqT.of h, SqT.of h2, by
    have := r.length
    have := r2.length
    rw [zipD_len]
    omega⟩
  yld := fun i H cs st x H' hi ⟨⟨xs, h, l, r⟩, ⟨ys, h2, l2, r2⟩⟩ so _ ⟨T, x0, y0, e, hT, e2, q1, q2⟩ => by
    subst e e2
    rw [zipD_len] at hi
    have g1 := List.getElem?_eq_getElem (show i < ds.length by omega)
    have g2 := List.getElem?_eq_getElem (show i < es.length by omega)
    obtain ⟨v, e, d1⟩ := r.get g1
    obtain ⟨u, e2, d2⟩ := r2.get g2
    rw [q1 xs (SqT.of h)] at e
    rw [q2 ys (SqT.of h2)] at e2
    cases e; cases e2
    exact ⟨same_new hT, _, zipD_at g1 g2, new_pair so.lv hT d1 d2⟩
def zip2I (f : Rho → M (List PyData)) : XI := fun ρ => do
  let xs ← f ρ
  match xs with
  | [.list ds, .list es] => pure (zipD ds es, fun _ => True)
  | [.tuple ds, .tuple es] => pure (zipD ds es, fun _ => True)
  | _ => fail
theorem s_zip2 {a b : Expr} {f : Rho → M (List PyData)} {p tpos : Pos} {elts : List Expr} {kk : Nat} (hg : Gl X "zip") (hm : X.mg "zip" = none) (ha : PA X [a, b] (tA X.K f)) (hs : starEach [a, b] X.env = (false, eval a X.env) :: starEach [b] X.env)
    (hpl : (backTo pos (starEach [b] X.env)).any (·.1) = false) : PI X (.Tuple elts kk tpos) (.Call (.Name "zip" p) [a, b] [] pos) (tI X.K (zip2I f)) := (RZ.pi_zipA hg hm ha hs hpl).imp fun σ H R ⟨ρ, cs, st, ds, gd, st', sl, so, e, k⟩ => by
  obtain ⟨xs, s1, e1, e2⟩ := bind_some e
  refine ⟨ρ, cs, st, xs, s1, sl, so, e1, fun vs H1 c1 x1 so1 q1 => ?_⟩
  split at e2
  · obtain ⟨h3, rfl⟩ := pure_some e2
    cases h3
    cases q1 with
    | cons qa qb =>
      cases qb with
      | cons qb qc =>
        cases qc
        cases qa with
        | lst h l r =>
          cases qb with
          | lst h2 l2 r2 => exact ⟨_, _, _, _, rfl, .inl ⟨SqL.of h, SqL.of h2, k _ H1 c1 _ x1 so1 wk_zipL ⟨⟨_, h, l, r⟩, ⟨_, h2, l2, r2⟩⟩⟩⟩
  · obtain ⟨h3, rfl⟩ := pure_some e2
    cases h3
    cases q1 with
    | cons qa qb =>
      cases qb with
      | cons qb qc =>
        cases qc
        cases qa with
        | tup h l r =>
          cases qb with
          | tup h2 l2 r2 => exact ⟨_, _, _, _, rfl, .inr ⟨SqT.of h, SqT.of h2, k _ H1 c1 _ x1 so1 wk_zipT ⟨⟨_, h, l, r⟩, ⟨_, h2, l2, r2⟩⟩⟩⟩
  · exact (fail_some e2).elim
end
end EF

set_option Elab.async false
set_option linter.all false
set_option maxRecDepth 100000
/-! EF4: targets, comprehensions, new lists. -/
namespace EF
open PySem PySem.Spec PyProof.Rows L2

/-! ### targets -/
inductive G where
  | nm (i : Nat) | tp (is : List Nat)
def setAll : List Nat → List PyData → Rho → Option Rho
  | [], [], ρ => some ρ
  | i :: is, d :: ds, ρ => setAll is ds (ρ.set i (some (.d d)))
  | _, _, _ => none
def G.put : G → PyData → Rho → Option Rho
  | .nm i, d, ρ => some (ρ.set i (some (.d d)))
  | .tp is, .tuple ds, ρ => setAll is ds ρ
  | _, _, _ => none
def G.is : G → List Nat
  | .nm i => [i]
  | .tp is => is
def wipeR (ρ : Rho) : List Nat → Rho
  | [] => ρ
  | v :: vs => (wipeR ρ vs).set v none
def tG (K : PySem.W.Frag) (g : G) : TG := fun v σ H Q => ∃ ρ cs d ρ', Slots K σ H ρ cs ∧ LvOk H cs ∧ Dq H cs v d ∧ g.put d ρ = some ρ' ∧
  ∀ σ', Slots K σ' H ρ' cs → (∀ vs, (∀ i ∈ g.is, i ∈ vs) → wipe σ' vs = wipe σ vs) → Q σ' H
theorem wipe_set (σ : L2.St) (i : Nat) (x : Option V) : ∀ vs : List Nat, wipe (σ.set i x) vs = if i ∈ vs then wipe σ vs else (wipe σ vs).set i x
  | [] => by simp [wipe]
  | v :: vs => by
    unfold wipe
    rw [wipe_set σ i x vs]
    by_cases h : i ∈ vs
    · rw [if_pos h, if_pos (List.mem_cons_of_mem _ h)]
    · rw [if_neg h]
      by_cases e : i = v
      · subst e
        rw [if_pos List.mem_cons_self]
        show ((wipe σ vs).set i x).set i none = (wipe σ vs).set i none
        rw [List.set_set]
      · rw [if_neg (by simp [e, h])]
        show ((wipe σ vs).set i x).set v none = ((wipe σ vs).set v none).set i x
        rw [List.set_comm _ _ e]
theorem wipe_idem (σ : L2.St) : ∀ vs : List Nat, wipe (wipe σ vs) vs = wipe σ vs
  | [] => rfl
  | v :: vs => by
    show (wipe ((wipe σ vs).set v none) vs).set v none = (wipe σ vs).set v none
    rw [wipe_set, wipe_idem σ vs]
    split
    · rfl
    · rw [List.set_set]
section
variable {X : Cx} {pos : Pos}
theorem _root_.L2.PG.imp {e : Expr} {t t' : TG} (h : PG X e t) (k : ∀ v σ H Q, t' v σ H Q → t v σ H Q) : PG X e t' := ⟨fun pins s σ H v u Q I r hw => h.run pins s σ H v u Q I r (k v σ H Q hw)⟩
theorem s_gname {i : Nat} {x : Str} (h : PG X (.Name x pos) (gName i)) : PG X (.Name x pos) (tG X.K (.nm i)) := h.imp fun v σ H Q ⟨ρ, cs, d, ρ', sl, lv, q, e, k⟩ => by
  cases e
  refine k _ (sl.set i (w := .d d) q) fun vs hm => ?_
  rw [wipe_set, if_pos (hm i (by simp [G.is]))]
def gNames : List Nat → TGs
  | [] => gNil
  | i :: is => gCons (gName i) (gNames is)
theorem gNames_ok {K : PySem.W.Frag} {H : Hp} {cs : CS} {Q : L2.St → Hp → Prop} : ∀ {is : List Nat} {vs : List V} {ds : List PyData} {ρ ρ' : Rho} {σ : L2.St}, Slots K σ H ρ cs → DqAll H cs vs ds → setAll is ds ρ = some ρ' →
    (∀ σ', Slots K σ' H ρ' cs → (∀ ws, (∀ i ∈ is, i ∈ ws) → wipe σ' ws = wipe σ ws) → Q σ' H) → gNames is vs σ H Q
  | [], _, _, ρ, ρ', σ, sl, .nil, e, k => by
    cases e
    exact ⟨rfl, k σ sl fun _ _ => rfl⟩
  | [], _, _, _, _, _, _, .cons _ _, e, _ => by cases e
  | _ :: _, _, _, _, _, _, _, .nil, e, _ => by cases e
  | i :: is, v :: vs, d :: ds, ρ, ρ', σ, sl, .cons q r, e, k => by
    refine ⟨v, vs, rfl, gNames_ok (ρ := ρ.set i (some (.d d))) (sl.set i (w := .d d) q) r e fun σ' sl' hw => k σ' sl' fun ws hm => ?_⟩
    rw [hw ws fun j hj => hm j (List.mem_cons_of_mem _ hj), wipe_set, if_pos (hm i List.mem_cons_self)]
theorem setAll_len : ∀ {is : List Nat} {ds : List PyData} {ρ ρ' : Rho}, setAll is ds ρ = some ρ' → ds.length = is.length
  | [], [], _, _, _ => rfl
  | [], _ :: _, _, _, e => by cases e
  | _ :: _, [], _, _, e => by cases e
  | i :: is, d :: ds, ρ, ρ', e => by rw [List.length_cons, List.length_cons, setAll_len (is := is) (ds := ds) e]
theorem s_gtup {es : List Expr} {j : Nat} {is : List Nat} (hc : X.calm = true) (h : PGs X es (gNames is)) (hn : (assignEach es X.env).length = is.length) (hst : (assignEach es X.env).findIdx? (·.1) = none) : PG X (.Tuple es j pos) (tG X.K (.tp is)) :=
  (pg_tup hc h hn hst).imp fun v σ H Q ⟨ρ, cs, d, ρ', sl, lv, q, e, k⟩ => by
    cases d with
    | tuple ds =>
      cases q with
      | tup hh l r => exact ⟨_, _, rfl, SqT.of hh, by rw [r.length]; exact setAll_len e, gNames_ok sl r e k⟩
    | _ => cases e
end

/-! ### a new list -/
theorem Ext.free {H H' : Hp} {cs cs' : CS} (x : Ext H cs H' cs') {p : Addr} (h : H' p = none) : H p = none := by
  cases q : H p with
  | none => rfl
  | some o =>
    obtain ⟨o', e⟩ := x.there p o q
    rw [h] at e; cases e
/-- the value is a list that nothing else leans on -/
def tF (K : PySem.W.Frag) (f : Rho → M (List PyData)) : TE := fun σ H Q => ∃ ρ cs st ds st', Slots K σ H ρ cs ∧ StoOk H cs st ∧ f ρ st = some (ds, st') ∧
  ∀ p xs H' cs', H p = none → Ext H cs H' cs' → Frm H cs H' (cs'.res p) → StoOk H' (cs'.res p) st' → ¬ Live cs' p → H' p = some (.lst xs) → DqAll H' (cs'.res p) xs ds → Q (.ref p) H'
def lsX (f : Rho → M (List PyData)) : XE := fun ρ => do let ds ← f ρ; pure (.list ds)
section
variable {X : Cx} {pos : Pos}
theorem s_fresh {e : Expr} {f : Rho → M (List PyData)} (h : PE X e (tF X.K f)) : PE X e (tE X.K (lsX f)) := h.imp fun σ H Q ⟨ρ, cs, st, d, st', sl, so, e, k⟩ => by
  obtain ⟨ds, s1, e1, e2⟩ := bind_some e
  obtain ⟨rfl, rfl⟩ := pure_some e2
  exact ⟨ρ, cs, st, ds, s1, sl, so, e1, fun p xs H' cs' _ x f so' nl hp r => k _ H' cs' x so'.unres (.lst hp nl (frm_unres.dqs r))⟩
def fitX (r : Rho → M (List PyData)) : Rho → M (List PyData) := fun ρ => do let xs ← r ρ; if fits xs = true then pure xs else fail
theorem s_lstF {es : List Expr} {r : Rho → M (List PyData)} (h : PA X es (tA X.K r)) : PE X (.List es pos) (tF X.K (fitX r)) := (pe_lst h).imp fun σ H Q ⟨ρ, cs, st, d, st', sl, so, e, k⟩ => by
  obtain ⟨xs, s1, e1, e2⟩ := bind_some e
  split at e2
  · rename_i hf
    obtain ⟨rfl, rfl⟩ := pure_some e2
    refine ⟨ρ, cs, st, xs, s1, sl, so, e1, fun vs H1 c1 x1 so1 q1 => ⟨by rw [q1.length]; exact of_decide_eq_true hf, fun p hp => ?_⟩⟩
    have fr : Frm H1 c1 (upd H1 p (.lst vs)) (c1.res p) := frm_res hp
    refine k p vs _ c1 (x1.free hp) (x1.trans (Ext.same (same_new hp))) (x1.frm.trans fr) ?_ (so1.lv.fresh hp) upd_same (fr.dqs q1)
    have z := (so1.start hp).own (xs := vs) List.mem_cons_self
    rw [upd_upd] at z
    exact z
  · exact (fail_some e2).elim

/-! ### list comprehensions -/
open Classical in
noncomputable def compGo (gd : Sto → Prop) (g : G) (test : XB) (elt : XE) (ρ : Rho) : List PyData → M (List PyData)
  | [] => fun st => if gd st then some ([], st) else none
  | d :: ds => fun st => if gd st then (match g.put d ρ with
      | none => none
      | some ρ1 => (do
          let b ← test ρ1
          if b = true then do
            let y ← elt ρ1
            let r ← compGo gd g test elt ρ ds
            pure (y :: r)
          else compGo gd g test elt ρ ds : M (List PyData)) st) else none
noncomputable def lcF (it : XI) (g : G) (test : XB) (elt : XE) (vs : List Nat) : Rho → M (List PyData) := fun ρ => do
  let p ← it ρ
  if fits p.1 = true then compGo p.2 g test elt (wipeR ρ vs) p.1 else fail
theorem wipeR_len (ρ : Rho) : ∀ vs : List Nat, (wipeR ρ vs).length = ρ.length
  | [] => rfl
  | v :: vs => by unfold wipeR; rw [List.length_set, wipeR_len ρ vs]
theorem Slots.wipe {K : PySem.W.Frag} {σ : L2.St} {H : Hp} {ρ : Rho} {cs : CS} (s : Slots K σ H ρ cs) : ∀ vs : List Nat, Slots K (L2.wipe σ vs) H (wipeR ρ vs) cs
  | [] => s
  | v :: vs => by
    have ih := Slots.wipe s vs
    refine ⟨by rw [wipe_length, wipeR_len]; exact s.len, fun i w e => ?_⟩
    unfold wipeR at e
    unfold L2.wipe
    by_cases h : v = i
    · subst h
      by_cases hv : v < (wipeR ρ vs).length
      · rw [List.getElem?_set_self hv] at e; cases e
      · rw [List.getElem?_eq_none (by rw [List.length_set]; omega)] at e; cases e
    · rw [List.getElem?_set_ne h] at e
      rw [List.getElem?_set_ne h]
      exact ih.at_ i w e
theorem compGo_gd {gd : Sto → Prop} {g : G} {test : XB} {elt : XE} {ρ : Rho} {ds : List PyData} {st : Sto} {r : List PyData × Sto} (h : compGo gd g test elt ρ ds st = some r) : gd st := by
  cases ds with
  | nil =>
    unfold compGo at h
    split at h
    · assumption
    · cases h
  | cons d ds =>
    unfold compGo at h
    split at h
    · assumption
    · cases h
theorem compGo_nil {gd : Sto → Prop} {g : G} {test : XB} {elt : XE} {ρ : Rho} {st s : Sto} {ys : List PyData} (h : compGo gd g test elt ρ [] st = some (ys, s)) : ys = [] ∧ s = st := by
  unfold compGo at h
  split at h
  · cases h; exact ⟨rfl, rfl⟩
  · cases h
theorem compGo_cons {gd : Sto → Prop} {g : G} {test : XB} {elt : XE} {ρ : Rho} {d : PyData} {ds : List PyData} {st s : Sto} {ys : List PyData} (h : compGo gd g test elt ρ (d :: ds) st = some (ys, s)) :
    ∃ ρ1 b s1, g.put d ρ = some ρ1 ∧ test ρ1 st = some (b, s1) ∧ ((b = true ∧ ∃ y s2 r, elt ρ1 s1 = some (y, s2) ∧ compGo gd g test elt ρ ds s2 = some (r, s) ∧ ys = y :: r) ∨ (b = false ∧ compGo gd g test elt ρ ds s1 = some (ys, s))) := by
  unfold compGo at h
  split at h
  · split at h
    · cases h
    · rename_i ρ1 e1
      obtain ⟨b, s1, e2, e3⟩ := bind_some h
      refine ⟨ρ1, b, s1, e1, e2, ?_⟩
      cases b with
      | true =>
        rw [if_pos rfl] at e3
        obtain ⟨y, s2, e4, e5⟩ := bind_some e3
        obtain ⟨r, s3, e6, e7⟩ := bind_some e5
        obtain ⟨rfl, rfl⟩ := pure_some e7
        exact .inl ⟨rfl, y, s2, r, e4, e6, rfl⟩
      | false =>
        rw [if_neg Bool.false_ne_true] at e3
        exact .inr ⟨rfl, e3⟩
  · cases h
theorem Ext.unres {H H' : Hp} {c r r' : _} {c' : _} (e : Ext H ⟨c, r⟩ H' ⟨c', r⟩) : Ext H ⟨c, r'⟩ H' ⟨c', r'⟩ := ⟨e.keep, e.new, rfl, e.len, e.old, e.there⟩
theorem lc_ok {K : PySem.W.Frag} {it : XI} {g : G} {test : XB} {elt : XE} {vs : List Nat} {σ : L2.St} {H : Hp} {Q : VK} {tt : TT} (hg : ∀ i ∈ g.is, i ∈ vs) (htt : ∀ σ H Q, tT K test σ H Q → tt σ H Q) (h : tF K (lcF it g test elt vs) σ H Q) :
    tLc (tI K it) (tG K g) tt (tE K elt) vs σ H Q := by
  obtain ⟨ρ, cs, st, ys, st', sl, so, e, k⟩ := h
  obtain ⟨⟨ds, gd⟩, s1, e1, e2⟩ := bind_some e
  split at e2
  case isFalse => exact (fail_some e2).elim
  rename_i hf
  have hsz : ds.length ≤ sizeLine := of_decide_eq_true hf
  refine ⟨ρ, cs, st, ds, gd, s1, sl, so, e1, fun J H1 c1 GG x1 so1 wk hG D hD => ?_⟩
  let ρw := wipeR ρ vs
  refine ⟨fun i m Hc => m = ds.length - i ∧ i ≤ ds.length ∧ ∃ (ci : CS) (si : Sto) (acc : List V) (accD rest : List PyData), ci.r = D :: c1.r ∧ Ext H1 c1 Hc ⟨ci.c, c1.r⟩ ∧ Frm H1 c1 Hc ci ∧ StoOk Hc ci si ∧ Hc D = some (.lst acc) ∧ DqAll Hc ci acc accD ∧ acc.length ≤ i ∧
      compGo gd g test elt ρw (ds.drop i) si = some (rest, st') ∧ ys = accD ++ rest, ⟨ds.length, rfl, Nat.zero_le _, c1.res D, s1, [], [], ys, rfl, Ext.same (same_new hD), frm_res hD, so1.start hD, upd_same, .nil, Nat.le_refl _, e2, rfl⟩, ?_⟩
  rintro i m Hc ⟨rfl, hi, ci, si, acc, accD, rest, hr, x2, f2, so2, hDc, ra, hl, ec, ey⟩
  have hDr : D ∈ ci.r := by rw [hr]; exact List.mem_cons_self
  have gd2 := compGo_gd ec
  have hGc : GG Hc ci := wk.stay _ _ _ _ hG f2
  by_cases hlt : i < ds.length
  · have ed : ds.drop i = ds[i] :: ds.drop (i + 1) := List.drop_eq_getElem_cons hlt
    rw [ed] at ec
    obtain ⟨ρ1, b, s3, ep, et, eb⟩ := compGo_cons ec
    refine .inr ⟨wk.go i Hc ci si hlt hGc so2 gd2, fun Hn => i + 1 ≤ ds.length ∧ ∃ (ci : CS) (si : Sto) (acc : List V) (accD rest : List PyData), ci.r = D :: c1.r ∧ Ext H1 c1 Hn ⟨ci.c, c1.r⟩ ∧ Frm H1 c1 Hn ci ∧ StoOk Hn ci si ∧ Hn D = some (.lst acc) ∧ DqAll Hn ci acc accD ∧ acc.length ≤ i + 1 ∧
      compGo gd g test elt ρw (ds.drop (i + 1)) si = some (rest, st') ∧ ys = accD ++ rest, fun H' hn => ⟨ds.length - (i + 1), by omega, rfl, hn⟩, fun x H' y => ?_⟩
    obtain ⟨sm, d, hd, qd⟩ := wk.yld i Hc ci si x H' hlt hGc so2 gd2 y
    have edd : d = ds[i] := by
      rw [List.getElem?_eq_getElem hlt] at hd
      exact (Option.some.inj hd).symm
    subst edd
    have so3 := so2.same sm
    have f3 : Frm H1 c1 H' ci := f2.trans (Ext.same sm).frm
    have x3 : Ext H1 c1 H' ⟨ci.c, c1.r⟩ := x2.trans (Ext.same sm)
    have slw : Slots K (L2.wipe σ vs) H' ρw ci := f3.slots so1.lv (x1.slots so.lv (sl.wipe vs))
    refine ⟨ρw, ci, _, ρ1, slw, so3.lv, qd, ep, fun σ' sl' hw => ⟨?_, ?_⟩⟩
    · rw [hw vs hg]
      exact wipe_idem σ vs
    · refine htt _ _ _ ⟨ρ1, ci, si, b, s3, sl', so3, et, fun H4 c4 x4 so4 => ?_⟩
      have r4 : c4.r = D :: c1.r := x4.res.trans hr
      have x5 : Ext H1 c1 H4 ⟨c4.c, c1.r⟩ := x3.trans ⟨x4.keep, x4.new, rfl, x4.len, x4.old, x4.there⟩
      have hD4 : H4 D = some (.lst acc) := x4.keep D _ (sm _ _ hDc) (so3.res D hDr).1
      have ra4 : DqAll H4 c4 acc accD := x4.dqs ((Ext.same sm).dqs ra)
      rcases eb with ⟨rfl, z, s5, r, ez, er, eyy⟩ | ⟨rfl, er⟩
      · refine iteT ?_
        refine ⟨ρ1, c4, s3, z, s5, x4.slots so3.lv sl', so4, ez, fun v H6 c6 x6 so6 q6 => ?_⟩
        have r6 : c6.r = D :: c1.r := x6.res.trans r4
        have hD6 : H6 D = some (.lst acc) := x6.keep D _ hD4 (so4.res D (by rw [r4]; exact List.mem_cons_self)).1
        have hDr6 : D ∈ c6.r := by rw [r6]; exact List.mem_cons_self
        refine ⟨acc, hD6, by omega, by omega, c6, s5, acc ++ [v], accD ++ [z], r, r6, ?_, ?_, so6.own hDr6, upd_same, (frm_own hDr6).dqs ((x6.dqs ra4).append (.cons q6 .nil)), by rw [List.length_append, List.length_singleton]; omega, er, by rw [ey, eyy, List.append_assoc]; rfl⟩
        · have x7 : Ext H1 c1 H6 ⟨c6.c, c1.r⟩ := x5.trans ⟨x6.keep, x6.new, rfl, x6.len, x6.old, x6.there⟩
          refine ⟨fun a o h l => ?_, x7.new, x7.res, x7.len, x7.old, fun a o h => ?_⟩
          · rw [upd_ne (ne_of_none h hD)]
            exact x7.keep a o h l
          · rw [upd_ne (ne_of_none h hD)]
            exact x7.there a o h
        · exact (f3.trans (x4.frm.trans x6.frm)).trans (frm_own hDr6)
      · refine iteF ?_
        exact ⟨by omega, c4, s3, acc, accD, rest, r4, x5, f3.trans x4.frm, so4, hD4, ra4, by omega, er, ey⟩
  · have ei : i = ds.length := by omega
    subst ei
    rw [List.drop_length] at ec
    obtain ⟨rfl, rfl⟩ := compGo_nil ec
    rw [List.append_nil] at ey
    subst ey
    refine .inl ⟨wk.stop Hc ci _ hGc so2 gd2, ?_⟩
    have eci : ci = CS.res ⟨ci.c, c1.r⟩ D := by
      cases ci
      simp only at hr
      rw [hr]
    refine k D acc Hc ⟨ci.c, c1.r⟩ (x1.free hD) (x1.trans x2) ?_ ?_ ?_ hDc ?_
    · rw [← eci]; exact x1.frm.trans f2
    · rw [← eci]; exact so2
    · rintro (q | q)
      · exact (so2.res D hDr).1 q
      · obtain ⟨ys, z⟩ := so1.lv D (.inr q)
        rw [hD] at z; cases z
    · rw [← eci]; exact ra
end
end EF

set_option Elab.async false
set_option linter.all false
set_option maxRecDepth 100000
/-! EF5: statements, loops, defs and their calls. -/
namespace EF
open PySem PySem.Spec PyProof.Rows L2

/-- how a block ends -/
inductive Fl where
  | nx (ρ : Rho) | rt (w : W) | bk (ρ : Rho) | ct (ρ : Rho)
abbrev XS := Rho → M Fl
def FlP (K : PySem.W.Frag) (H : Hp) (cs : CS) (st' : Sto) (D : Ends) : Fl → Prop
  | .nx ρ' => ∀ σ' H' cs', Ext H cs H' cs' → StoOk H' cs' st' → Slots K σ' H' ρ' cs' → D.nx σ' H'
  | .rt w => ∀ v H' cs', Ext H cs H' cs' → StoOk H' cs' st' → RW K H' cs' v w → D.rt v H'
  | .bk ρ' => ∀ σ' H' cs', Ext H cs H' cs' → StoOk H' cs' st' → Slots K σ' H' ρ' cs' → D.bk σ' H'
  | .ct ρ' => ∀ σ' H' cs', Ext H cs H' cs' → StoOk H' cs' st' → Slots K σ' H' ρ' cs' → D.ct σ' H'
def tS (K : PySem.W.Frag) (f : XS) : TS := fun D σ H => ∃ ρ cs st fl st', Slots K σ H ρ cs ∧ StoOk H cs st ∧ f ρ st = some (fl, st') ∧ FlP K H cs st' D fl
theorem FlP.ext {K : PySem.W.Frag} {H H1 : Hp} {cs c1 : CS} {st' : Sto} {D : Ends} {fl : Fl} (h : FlP K H cs st' D fl) (x : Ext H cs H1 c1) : FlP K H1 c1 st' D fl := by
  cases fl with
  | nx ρ => exact fun σ' H' cs' x' so sl => h σ' H' cs' (x.trans x') so sl
  | rt w => exact fun v H' cs' x' so r => h v H' cs' (x.trans x') so r
  | bk ρ => exact fun σ' H' cs' x' so sl => h σ' H' cs' (x.trans x') so sl
  | ct ρ => exact fun σ' H' cs' x' so sl => h σ' H' cs' (x.trans x') so sl

section
variable {X : Cx} {e a b c : Expr} {s : Stmt} {rest : List Stmt} {pos : Pos}
theorem _root_.L2.PS.imp {t t' : TS} (h : PS X s t) (k : ∀ D σ H, t' D σ H → t D σ H) : PS X s t' := ⟨fun pins s σ H D I hw => h.run pins s σ H D I (k D σ H hw)⟩
theorem _root_.L2.PSs.imp {ss : List Stmt} {t t' : TS} (h : PSs X ss t) (k : ∀ D σ H, t' D σ H → t D σ H) : PSs X ss t' := ⟨fun pins s σ H D I hw => h.run pins s σ H D I (k D σ H hw)⟩

/-! ### blocks -/
def skipS : XS := fun ρ => pure (.nx ρ)
def seqS (f1 f2 : XS) : XS := fun ρ => do
  let fl ← f1 ρ
  match fl with
  | .nx ρ' => f2 ρ'
  | o => pure o
theorem s_pssnil : PSs X [] (tS X.K skipS) := pss_nil.imp fun D σ H ⟨ρ, cs, st, fl, st', sl, so, e, k⟩ => by
  obtain ⟨rfl, rfl⟩ := pure_some e
  exact k σ H cs .refl so sl
theorem s_psscons {f1 f2 : XS} (h1 : PS X s (tS X.K f1)) (h2 : PSs X rest (tS X.K f2)) : PSs X (s :: rest) (tS X.K (seqS f1 f2)) := (pss_cons h1 h2).imp fun D σ H ⟨ρ, cs, st, fl, st', sl, so, e, k⟩ => by
  obtain ⟨fl1, s1, e1, e2⟩ := bind_some e
  refine ⟨ρ, cs, st, fl1, s1, sl, so, e1, ?_⟩
  cases fl1 with
  | nx ρ1 => exact fun σ1 H1 c1 x1 so1 sl1 => ⟨ρ1, c1, s1, fl, st', sl1, so1, e2, k.ext x1⟩
  | rt w =>
    obtain ⟨rfl, rfl⟩ := pure_some e2
    exact k
  | bk ρ1 =>
    obtain ⟨rfl, rfl⟩ := pure_some e2
    exact k
  | ct ρ1 =>
    obtain ⟨rfl, rfl⟩ := pure_some e2
    exact k
/-- code that is never come to -/
def nevS : XS := fun _ => fail
theorem s_never : PS X s (tS X.K nevS) := ps_never.imp fun D σ H ⟨ρ, cs, st, fl, st', sl, so, e, k⟩ => (fail_some e).elim
theorem s_pass : PS X (.Pass pos) (tS X.K skipS) := ps_pass.imp fun D σ H ⟨ρ, cs, st, fl, st', sl, so, e, k⟩ => by
  obtain ⟨rfl, rfl⟩ := pure_some e
  exact k σ H cs .refl so sl
def brkS : XS := fun ρ => pure (.bk ρ)
def cntS : XS := fun ρ => pure (.ct ρ)
theorem s_break : PS X (.Break pos) (tS X.K brkS) := ps_break.imp fun D σ H ⟨ρ, cs, st, fl, st', sl, so, e, k⟩ => by
  obtain ⟨rfl, rfl⟩ := pure_some e
  exact k σ H cs .refl so sl
theorem s_cont : PS X (.Continue pos) (tS X.K cntS) := ps_continue.imp fun D σ H ⟨ρ, cs, st, fl, st', sl, so, e, k⟩ => by
  obtain ⟨rfl, rfl⟩ := pure_some e
  exact k σ H cs .refl so sl
def dropS (f : XE) : XS := fun ρ => do let _ ← f ρ; pure (.nx ρ)
theorem s_expr {f : XE} (h : PE X e (tE X.K f)) (hs : swapsWith e none pos.line X.env = pure false) : PS X (.Expr e pos) (tS X.K (dropS f)) := (ps_expr h hs).imp fun D σ H ⟨ρ, cs, st, fl, st', sl, so, e, k⟩ => by
  obtain ⟨x, s1, e1, e2⟩ := bind_some e
  obtain ⟨rfl, rfl⟩ := pure_some e2
  exact ⟨ρ, cs, st, x, s1, sl, so, e1, fun v H1 c1 x1 so1 _ => k σ H1 c1 x1 so1 (x1.slots so.lv sl)⟩
def retS (f : XE) : XS := fun ρ => do let x ← f ρ; pure (.rt (.d x))
theorem s_ret {f : XE} (h : PE X e (tE X.K f)) : PS X (.Return (some e) pos) (tS X.K (retS f)) := (ps_ret h).imp fun D σ H ⟨ρ, cs, st, fl, st', sl, so, e, k⟩ => by
  obtain ⟨x, s1, e1, e2⟩ := bind_some e
  obtain ⟨rfl, rfl⟩ := pure_some e2
  exact ⟨ρ, cs, st, x, s1, sl, so, e1, fun v H1 c1 x1 so1 q => k v H1 c1 x1 so1 q⟩
def retnS : XS := fun _ => pure (.rt (.d .none))
theorem s_retn : PS X (.Return none pos) (tS X.K retnS) := ps_retN.imp fun D σ H ⟨ρ, cs, st, fl, st', sl, so, e, k⟩ => by
  obtain ⟨rfl, rfl⟩ := pure_some e
  exact k .non H cs .refl so .non
/-- the store with one more list -/
def pushM (ds : List PyData) : M Nat := fun st => some (st.length, st ++ [some ds])
theorem push_ok {H : Hp} {cs : CS} {st : Sto} {p : Addr} {xs : List V} {ds : List PyData} (so : StoOk H (cs.res p) st) (nl : ¬ Live cs p) (hp : H p = some (.lst xs)) (r : DqAll H (cs.res p) xs ds) :
    StoOk H ⟨cs.c ++ [some p], cs.r⟩ (st ++ [some ds]) ∧ Frm H (cs.res p) H ⟨cs.c ++ [some p], cs.r⟩ := by
  have hl : cs.c.length = st.length := so.len
  have fr : Frm H (cs.res p) H ⟨cs.c ++ [some p], cs.r⟩ := ⟨fun a o h _ => h, fun a o h l q => by
      rcases q with q | q
      · rcases List.mem_append.mp q with z | z
        · exact l (.inl z)
        · have z' := List.mem_singleton.mp z
          cases z'
          exact l (.inr List.mem_cons_self)
      · exact l (.inr (List.mem_cons_of_mem _ q)), by simp, fun n a h q => by
      have h' : n < cs.c.length := h
      have q' : (cs.c ++ [some p])[n]? = some (some a) := q
      rw [List.getElem?_append_left h'] at q'
      exact q'⟩
  have np : ∀ n : Nat, cs.c[n]? = some (some p) → False := fun n q => nl (.inl (List.mem_of_getElem? q))
  have cases' : ∀ (n : Nat) (a : Addr), (cs.c ++ [some p])[n]? = some (some a) → cs.c[n]? = some (some a) ∨ (n = cs.c.length ∧ a = p) := fun n a q => by
    by_cases h : n < cs.c.length
    · rw [List.getElem?_append_left h] at q
      exact .inl q
    · rw [List.getElem?_append_right (by omega)] at q
      have h0 : n - cs.c.length = 0 := by
        by_cases z : n - cs.c.length = 0
        · exact z
        · rw [List.getElem?_eq_none (by simp; omega)] at q; cases q
      rw [h0] at q
      cases q
      exact .inr ⟨by omega, rfl⟩
  refine ⟨⟨by simp [hl], fun n a q => ?_, fun n es q => ?_, fun n m a q1 q2 => ?_, fun a q => ?_⟩, fr⟩
  · rcases cases' n a q with q | ⟨rfl, rfl⟩
    · obtain ⟨ys, es, h1, h2, h3⟩ := so.at_ n a q
      have hn : n < st.length := (List.getElem?_eq_some_iff.mp h2).1
      exact ⟨ys, es, h1, by rw [List.getElem?_append_left hn]; exact h2, fr.dqs h3⟩
    · exact ⟨xs, ds, hp, by rw [hl]; simp, fr.dqs r⟩
  · by_cases h : n < st.length
    · rw [List.getElem?_append_left h] at q
      obtain ⟨a, q'⟩ := so.has n es q
      exact ⟨a, by
        show (cs.c ++ [some p])[n]? = _
        rw [List.getElem?_append_left (by omega)]; exact q'⟩
    · refine ⟨p, ?_⟩
      have hn : n = st.length := by
        by_cases z : n = st.length
        · exact z
        · rw [List.getElem?_eq_none (by simp; omega)] at q; cases q
      show (cs.c ++ [some p])[n]? = _
      rw [hn, ← hl]; simp
  · rcases cases' n a q1 with q3 | ⟨h3, h4⟩
    · rcases cases' m a q2 with q4 | ⟨h5, h6⟩
      · exact so.inj n m a q3 q4
      · exact (np n (by rw [← h6]; exact q3)).elim
    · rcases cases' m a q2 with q4 | ⟨h5, h6⟩
      · exact (np m (by rw [← h4]; exact q4)).elim
      · rw [h3, h5]
  · obtain ⟨q1, ys, q2⟩ := so.res a (List.mem_cons_of_mem _ q)
    refine ⟨fun z => ?_, ys, q2⟩
    rcases List.mem_append.mp z with z | z
    · exact q1 z
    · have z' := List.mem_singleton.mp z
      cases z'
      exact nl (.inr q)
theorem push_ext {H H' : Hp} {cs c' : CS} {p : Addr} (hp : H p = none) (x : Ext H cs H' c') : Ext H cs H' ⟨c'.c ++ [some p], c'.r⟩ :=
  ⟨x.keep, fun a q => by
    rcases List.mem_append.mp q with z | z
    · exact x.new a z
    · have z' := List.mem_singleton.mp z
      cases z'
      exact .inr hp, x.res, by simp; have := x.len; omega, fun n a h q => by
      have q' : (c'.c ++ [some p])[n]? = some (some a) := q
      rw [List.getElem?_append_left (Nat.lt_of_lt_of_le h x.len)] at q'
      exact x.old n a h q', x.there⟩
theorem push_rw {K : PySem.W.Frag} {H : Hp} {cs : CS} {p : Addr} : RW K H ⟨cs.c ++ [some p], cs.r⟩ (.ref p) (.c cs.c.length) :=
  ⟨p, rfl, by simp, fun b q => by
    have q' : (cs.c ++ [some p])[cs.c.length]? = some (some b) := q
    rw [List.getElem?_append_right (Nat.le_refl _), Nat.sub_self] at q'
    cases q'; rfl⟩
/-- return a new list that may change -/
def retcS (f : Rho → M (List PyData)) : XS := fun ρ => do let ds ← f ρ; let n ← pushM ds; pure (.rt (.c n))
theorem s_retc {f : Rho → M (List PyData)} (h : PE X e (tF X.K f)) : PS X (.Return (some e) pos) (tS X.K (retcS f)) := (ps_ret h).imp fun D σ H ⟨ρ, cs, st, fl, st', sl, so, e, k⟩ => by
  obtain ⟨ds, s1, e1, e2⟩ := bind_some e
  obtain ⟨n, s2, e3, e4⟩ := bind_some e2
  obtain ⟨rfl, rfl⟩ := pure_some e4
  cases e3
  refine ⟨ρ, cs, st, ds, s1, sl, so, e1, fun p xs H' c' hp x f so' nl hl r => ?_⟩
  have hlen : c'.c.length = s1.length := so'.len
  rw [← hlen] at k
  exact k (.ref p) H' _ (push_ext hp x) (push_ok so' nl hl r).1 push_rw

/-! ### assignments -/
def setS (g : G) (f : XE) : XS := fun ρ => do let x ← f ρ; let ρ' ← ofOpt (g.put x ρ); pure (.nx ρ')
theorem s_asg {tg : Expr} {g : G} {f : XE} (he : PE X e (tE X.K f)) (hg : PG X tg (tG X.K g)) (hs : swapsWithSole [tg] e pos.line X.env = pure false) (hw : swappedStores [tg] e X.env = pure none) (h1 : (assignEach [tg] X.env).map (·.2) = [assign tg X.env]) :
    PS X (.Assign [tg] e pos) (tS X.K (setS g f)) := (ps_asg he hg hs hw h1).imp fun D σ H ⟨ρ, cs, st, fl, st', sl, so, e, k⟩ => by
  obtain ⟨x, s1, e1, e2⟩ := bind_some e
  obtain ⟨ρ', s2, e3, e4⟩ := bind_some e2
  obtain ⟨e5, rfl⟩ := ofOpt_some e3
  obtain ⟨rfl, rfl⟩ := pure_some e4
  exact ⟨ρ, cs, st, x, s1, sl, so, e1, fun v H1 c1 x1 so1 q => ⟨ρ, c1, x, ρ', x1.slots so.lv sl, so1.lv, q, e5, fun σ' sl' _ => k σ' H1 c1 x1 so1 sl'⟩⟩
/-- name = value, where the stores are not exchanged -/
def set1S (i : Nat) (f : XE) : XS := fun ρ => do let x ← f ρ; pure (.nx (ρ.set i (some (.d x))))
theorem s_set {i : Nat} {f : XE} (h : PS X s (tAsg (tE X.K f) (gName i))) : PS X s (tS X.K (set1S i f)) := h.imp fun D σ H ⟨ρ, cs, st, fl, st', sl, so, e, k⟩ => by
  obtain ⟨x, s1, e1, e2⟩ := bind_some e
  obtain ⟨rfl, rfl⟩ := pure_some e2
  exact ⟨ρ, cs, st, x, s1, sl, so, e1, fun v H1 c1 x1 so1 q => k _ H1 c1 x1 so1 ((x1.slots so.lv sl).set i (w := .d x) q)⟩
/-- .. by any reading of the value whose list is new -/
theorem s_setl {i : Nat} {f : Rho → M (List PyData)} {t : TE} (h : PS X s (tAsg t (gName i))) (ht : ∀ σ H Q, tF X.K f σ H Q → t σ H Q) : PS X s (tS X.K (set1S i (lsX f))) := h.imp fun D σ H ⟨ρ, cs, st, fl, st', sl, so, e, k⟩ => by
  obtain ⟨x, s1, e1, e2⟩ := bind_some e
  obtain ⟨rfl, rfl⟩ := pure_some e2
  obtain ⟨ds, s2, e3, e4⟩ := bind_some e1
  obtain ⟨rfl, rfl⟩ := pure_some e4
  exact ht _ _ _ ⟨ρ, cs, st, ds, s2, sl, so, e3, fun p xs H' cs' hp x f so' nl hl r => k _ H' cs' x so'.unres ((x.slots so.lv sl).set i (w := .d (.list ds)) (.lst hl nl (frm_unres.dqs r)))⟩
/-- name = a new list that may change -/
def newS (i : Nat) (f : Rho → M (List PyData)) : XS := fun ρ => do let ds ← f ρ; let n ← pushM ds; pure (.nx (ρ.set i (some (.c n))))
theorem s_new {i : Nat} {f : Rho → M (List PyData)} {t : TE} (h : PS X s (tAsg t (gName i))) (ht : ∀ σ H Q, tF X.K f σ H Q → t σ H Q) : PS X s (tS X.K (newS i f)) := h.imp fun D σ H ⟨ρ, cs, st, fl, st', sl, so, e, k⟩ => by
  obtain ⟨ds, s1, e1, e2⟩ := bind_some e
  obtain ⟨n, s2, e3, e4⟩ := bind_some e2
  obtain ⟨rfl, rfl⟩ := pure_some e4
  cases e3
  refine ht _ _ _ ⟨ρ, cs, st, ds, s1, sl, so, e1, fun p xs H' c' hp x f so' nl hl r => ?_⟩
  have hlen : c'.c.length = s1.length := so'.len
  rw [← hlen] at k
  obtain ⟨h1, h2⟩ := push_ok so' nl hl r
  exact k _ H' _ (push_ext hp x) h1 (((f.trans h2).slots so.lv sl).set i (w := .c c'.c.length) push_rw)
/-- a, b = x, y with plain names -/
def parS (i j : Nat) (f : Rho → M (List PyData)) : XS := fun ρ => do
  let xs ← f ρ
  match xs with
  | [x, y] => pure (.nx ((ρ.set i (some (.d x))).set j (some (.d y))))
  | _ => fail
theorem s_par {i j : Nat} {f : Rho → M (List PyData)} (h : PS X s (tPar i j (tA X.K f))) : PS X s (tS X.K (parS i j f)) := h.imp fun D σ H ⟨ρ, cs, st, fl, st', sl, so, e, k⟩ => by
  obtain ⟨xs, s1, e1, e2⟩ := bind_some e
  refine ⟨ρ, cs, st, xs, s1, sl, so, e1, fun vs H1 c1 x1 so1 q => ?_⟩
  split at e2
  · obtain ⟨rfl, rfl⟩ := pure_some e2
    cases q with
    | cons qa qb =>
      cases qb with
      | cons qb qc =>
        cases qc
        exact ⟨_, _, rfl, k _ H1 c1 x1 so1 (((x1.slots so.lv sl).set i (w := .d _) qa).set j (w := .d _) qb)⟩
  · exact (fail_some e2).elim

/-! ### if, for, while -/
def ifS (c : XB) (f1 f2 : XS) : XS := fun ρ => do let b ← c ρ; if b = true then f1 ρ else f2 ρ
theorem s_if {fc : XB} {f1 f2 : XS} {ss us : List Stmt} (hc : PT X c (tT X.K fc)) (ha : PSs X ss (tS X.K f1)) (hb : PSs X us (tS X.K f2)) : PS X (.If c ss us pos) (tS X.K (ifS fc f1 f2)) := (ps_if hc ha hb).imp fun D σ H ⟨ρ, cs, st, fl, st', sl, so, e, k⟩ => by
  obtain ⟨x, s1, e1, e2⟩ := bind_some e
  refine ⟨ρ, cs, st, x, s1, sl, so, e1, fun H1 c1 x1 so1 => ?_⟩
  cases x with
  | true => exact iteT ⟨ρ, c1, s1, fl, st', x1.slots so.lv sl, so1, e2, k.ext x1⟩
  | false => exact iteF ⟨ρ, c1, s1, fl, st', x1.slots so.lv sl, so1, e2, k.ext x1⟩
open Classical in
noncomputable def forGo (gd : Sto → Prop) (g : G) (body : XS) : List PyData → XS
  | [] => fun ρ st => if gd st then some (.nx ρ, st) else none
  | d :: ds => fun ρ st => if gd st then (match g.put d ρ with
      | none => none
      | some ρ1 => (do
          let fl ← body ρ1
          match fl with
          | .nx ρ2 => forGo gd g body ds ρ2
          | .ct ρ2 => forGo gd g body ds ρ2
          | .bk ρ2 => pure (.nx ρ2)
          | .rt w => pure (.rt w) : M Fl) st) else none
noncomputable def forS (it : XI) (g : G) (body : XS) : XS := fun ρ => do
  let p ← it ρ
  forGo p.2 g body p.1 ρ
theorem forGo_gd {gd : Sto → Prop} {g : G} {body : XS} {ρ : Rho} {ds : List PyData} {st : Sto} {r : Fl × Sto} (h : forGo gd g body ds ρ st = some r) : gd st := by
  cases ds with
  | nil =>
    unfold forGo at h
    split at h
    · assumption
    · cases h
  | cons d ds =>
    unfold forGo at h
    split at h
    · assumption
    · cases h
theorem s_for {it : XI} {g : G} {body : XS} {tg iter : Expr} {ss : List Stmt} (hp : PassesOwn (model X.prog X.w) X.A X.env X.xe) (hc : X.calm = true) (hi : PI X tg iter (tI X.K it)) (hg : PG X tg (tG X.K g)) (hb : PSs X ss (tS X.K body))
    (hs : ∀ x, foldedSetIterable iter X.env x = pure x) : PS X (.For tg iter ss [] pos) (tS X.K (forS it g body)) := (ps_for hp hc hi hg hb hs).imp fun D σ H ⟨ρ, cs, st, fl, st', sl, so, e, k⟩ => by
  obtain ⟨⟨ds, gd⟩, s1, e1, e2⟩ := bind_some e
  refine ⟨ρ, cs, st, ds, gd, s1, sl, so, e1, fun J H1 c1 GG x1 so1 wk hG => ?_⟩
  refine ⟨fun i m σi Hc => m = ds.length - i ∧ i ≤ ds.length ∧ ∃ (ci : CS) (si : Sto) (ρi : Rho), Ext H1 c1 Hc ci ∧ StoOk Hc ci si ∧ Slots X.K σi Hc ρi ci ∧ forGo gd g body (ds.drop i) ρi si = some (fl, st'),
    ⟨ds.length, rfl, Nat.zero_le _, c1, s1, ρ, .refl, so1, x1.slots so.lv sl, e2⟩, ?_⟩
  rintro i m σi Hc ⟨rfl, hi, ci, si, ρi, x2, so2, sl2, ec⟩
  have gd2 := forGo_gd ec
  have hGc : GG Hc ci := wk.stay _ _ _ _ hG x2.frm
  by_cases hlt : i < ds.length
  · have ed : ds.drop i = ds[i] :: ds.drop (i + 1) := List.drop_eq_getElem_cons hlt
    rw [ed] at ec
    unfold forGo at ec
    rw [if_pos gd2] at ec
    refine .inr ⟨wk.go i Hc ci si hlt hGc so2 gd2, fun σn Hn => i + 1 ≤ ds.length ∧ ∃ (ci : CS) (si : Sto) (ρi : Rho), Ext H1 c1 Hn ci ∧ StoOk Hn ci si ∧ Slots X.K σn Hn ρi ci ∧ forGo gd g body (ds.drop (i + 1)) ρi si = some (fl, st'),
      fun σ' H' hn => ⟨ds.length - (i + 1), by omega, rfl, hn⟩, fun x H' y => ?_⟩
    obtain ⟨sm, d, hd, qd⟩ := wk.yld i Hc ci si x H' hlt hGc so2 gd2 y
    have edd : d = ds[i] := by
      rw [List.getElem?_eq_getElem hlt] at hd
      exact (Option.some.inj hd).symm
    subst edd
    have so3 := so2.same sm
    have x3 : Ext H1 c1 H' ci := x2.trans (Ext.same sm)
    split at ec
    · cases ec
    · rename_i ρ1 ep
      obtain ⟨fl1, s4, e4, e5⟩ := bind_some ec
      refine ⟨ρi, ci, _, ρ1, (Ext.same sm).slots so2.lv sl2, so3.lv, qd, ep, fun σ' sl' _ => ⟨ρ1, ci, si, fl1, s4, sl', so3, e4, ?_⟩⟩
      cases fl1 with
      | nx ρ2 => exact fun σ5 H5 c5 x5 so5 sl5 => ⟨hlt, c5, s4, ρ2, x3.trans x5, so5, sl5, e5⟩
      | ct ρ2 => exact fun σ5 H5 c5 x5 so5 sl5 => ⟨hlt, c5, s4, ρ2, x3.trans x5, so5, sl5, e5⟩
      | bk ρ2 =>
        obtain ⟨rfl, rfl⟩ := pure_some e5
        exact fun σ5 H5 c5 x5 so5 sl5 => k σ5 H5 c5 ((x1.trans x3).trans x5) so5 sl5
      | rt w =>
        obtain ⟨rfl, rfl⟩ := pure_some e5
        exact fun v H5 c5 x5 so5 q5 => k v H5 c5 ((x1.trans x3).trans x5) so5 q5
  · have ei : i = ds.length := by omega
    subst ei
    rw [List.drop_length] at ec
    unfold forGo at ec
    rw [if_pos gd2] at ec
    cases ec
    exact .inl ⟨wk.stop Hc ci _ hGc so2 gd2, k σi Hc ci (x1.trans x2) so2 sl2⟩
/-- a while of at most n turns -/
def whGo (c : XB) (body : XS) : Nat → XS
  | 0 => fun _ => fail
  | n + 1 => fun ρ => do
    let b ← c ρ
    if b = true then do
      let fl ← body ρ
      match fl with
      | .nx ρ2 => whGo c body n ρ2
      | .ct ρ2 => whGo c body n ρ2
      | .bk ρ2 => pure (.nx ρ2)
      | .rt w => pure (.rt w)
    else pure (.nx ρ)
theorem s_while {n : Nat} {fc : XB} {body : XS} {ss : List Stmt} (hp : PassesOwn (model X.prog X.w) X.A X.env X.xe) (hc : PT X c (tT X.K fc)) (hb : PSs X ss (tS X.K body)) : PS X (.While c ss [] pos) (tS X.K (whGo fc body n)) := (ps_while hp hc hb).imp fun D σ H ⟨ρ, cs, st, fl, st', sl, so, e, k⟩ => by
  refine ⟨fun m σi Hc => ∃ (ci : CS) (si : Sto) (ρi : Rho), Ext H cs Hc ci ∧ StoOk Hc ci si ∧ Slots X.K σi Hc ρi ci ∧ whGo fc body m ρi si = some (fl, st'), ⟨n, cs, st, ρ, .refl, so, sl, e⟩, ?_⟩
  rintro m σi Hc ⟨ci, si, ρi, x2, so2, sl2, ec⟩
  cases m with
  | zero => exact (fail_some (st := si) ec).elim
  | succ m =>
    unfold whGo at ec
    obtain ⟨b, s3, e3, e4⟩ := bind_some ec
    refine ⟨ρi, ci, si, b, s3, sl2, so2, e3, fun H3 c3 x3 so3 => ?_⟩
    have x4 := x2.trans x3
    have sl3 := x3.slots so2.lv sl2
    cases b with
    | true =>
      rw [if_pos rfl] at e4
      refine iteT ⟨fun σ' H' => ∃ (ci : CS) (si : Sto) (ρi : Rho), Ext H cs H' ci ∧ StoOk H' ci si ∧ Slots X.K σ' H' ρi ci ∧ whGo fc body m ρi si = some (fl, st'), fun σ' H' hn => ⟨m, Nat.lt_succ_self m, hn⟩, ?_⟩
      obtain ⟨fl1, s5, e5, e6⟩ := bind_some e4
      refine ⟨ρi, c3, s3, fl1, s5, sl3, so3, e5, ?_⟩
      cases fl1 with
      | nx ρ2 => exact fun σ5 H5 c5 x5 so5 sl5 => ⟨c5, s5, ρ2, x4.trans x5, so5, sl5, e6⟩
      | ct ρ2 => exact fun σ5 H5 c5 x5 so5 sl5 => ⟨c5, s5, ρ2, x4.trans x5, so5, sl5, e6⟩
      | bk ρ2 =>
        obtain ⟨rfl, rfl⟩ := pure_some e6
        exact fun σ5 H5 c5 x5 so5 sl5 => k σ5 H5 c5 (x4.trans x5) so5 sl5
      | rt w =>
        obtain ⟨rfl, rfl⟩ := pure_some e6
        exact fun v H5 c5 x5 so5 q5 => k v H5 c5 (x4.trans x5) so5 q5
    | false =>
      rw [if_neg Bool.false_ne_true] at e4
      obtain ⟨rfl, rfl⟩ := pure_some e4
      exact iteF (k σi H3 c3 x4 so3 sl3)
end
end EF

set_option Elab.async false
set_option linter.all false
set_option maxRecDepth 100000
/-! EF6: lists that change; defs and their calls. -/
namespace EF
open PySem PySem.Spec PyProof.Rows L2

/-! ### a list that may change is changed -/
/-- the n-th list of the store -/
def cellNo (i : Nat) (ρ : Rho) : M Nat := ofOpt (match ρ[i]? with | some (some (.c n)) => some n | _ => none)
def getM (n : Nat) : M (List PyData) := fun st => match st[n]? with
  | some (some ds) => some (ds, st)
  | _ => none
def putM (n : Nat) (ds : List PyData) : M Unit := fun st => some ((), st.set n (some ds))
theorem cellNo_some {i n : Nat} {ρ : Rho} {st s : Sto} (h : cellNo i ρ st = some (n, s)) : ρ[i]? = some (some (.c n)) ∧ st = s := by
  obtain ⟨h1, h2⟩ := ofOpt_some h
  refine ⟨?_, h2⟩
  split at h1
  · rename_i e
    cases h1
    exact e
  · cases h1
theorem getM_some {n : Nat} {st s : Sto} {ds : List PyData} (h : getM n st = some (ds, s)) : st[n]? = some (some ds) ∧ st = s := by
  unfold getM at h
  split at h
  · rename_i e
    cases h
    exact ⟨e, rfl⟩
  · cases h
/-- the n-th list is at a; it becomes ys -/
theorem put_ok {H : Hp} {cs : CS} {st : Sto} {n : Nat} {a : Addr} {ys : List V} {es : List PyData} (so : StoOk H cs st) (ha : cs.c[n]? = some (some a)) (r : DqAll H cs ys es) :
    Ext H cs (upd H a (.lst ys)) cs ∧ StoOk (upd H a (.lst ys)) cs (st.set n (some es)) := by
  have la : Live cs a := .inl (List.mem_of_getElem? ha)
  have fr : Frm H cs (upd H a (.lst ys)) cs := ⟨fun b o h l => by
    have ne : b ≠ a := fun z => l (z ▸ la)
    rw [upd_ne ne]; exact h, fun _ _ _ l => l, Nat.le_refl _, fun _ _ _ e => e⟩
  have hn : n < st.length := by
    rw [← so.len]
    exact (List.getElem?_eq_some_iff.mp ha).1
  refine ⟨⟨fun b o h l => by
    have ne : b ≠ a := fun z => l (by rw [z]; exact List.mem_of_getElem? ha)
    rw [upd_ne ne]; exact h, fun b h => .inl h, rfl, Nat.le_refl _, fun _ _ _ e => e, fun b o h => ?_⟩, ⟨by rw [List.length_set]; exact so.len, fun m b e => ?_, fun m ds e => ?_, so.inj, fun b h => ?_⟩⟩
  · by_cases z : b = a
    · exact ⟨_, by rw [z]; exact upd_same⟩
    · exact ⟨o, by rw [upd_ne z]; exact h⟩
  · by_cases z : n = m
    · subst z
      rw [ha] at e
      cases e
      exact ⟨ys, es, upd_same, List.getElem?_set_self hn, fr.dqs r⟩
    · obtain ⟨xs, ds, q1, q2, q3⟩ := so.at_ m b e
      have ne : b ≠ a := fun q => z (so.inj n m a ha (q ▸ e))
      exact ⟨xs, ds, by rw [upd_ne ne]; exact q1, by rw [List.getElem?_set_ne z]; exact q2, fr.dqs q3⟩
  · by_cases z : n = m
    · subst z
      exact ⟨a, ha⟩
    · rw [List.getElem?_set_ne z] at e
      exact so.has m ds e
  · obtain ⟨q1, xs, q2⟩ := so.res b h
    have ne : b ≠ a := fun q => q1 (by rw [q]; exact List.mem_of_getElem? ha)
    exact ⟨q1, xs, by rw [upd_ne ne]; exact q2⟩
section
variable {X : Cx} {pos : Pos}
/-- the cell of slot i, behind what has been worked out -/
theorem cell_at {K : PySem.W.Frag} {σ : L2.St} {H : Hp} {ρ : Rho} {cs : CS} {i n : Nat} {st : Sto} {ds : List PyData} (sl : Slots K σ H ρ cs) (so : StoOk H cs st) (hi : ρ[i]? = some (some (.c n))) (hd : st[n]? = some (some ds)) :
    ∃ a xs, σ[i]? = some (some (.ref a)) ∧ cs.c[n]? = some (some a) ∧ H a = some (.lst xs) ∧ DqAll H cs xs ds := by
  obtain ⟨v, e1, a, rfl, hn, hb⟩ := sl.at_ i _ hi
  obtain ⟨b, eb⟩ := so.has n _ hd
  obtain rfl := hb b eb
  obtain ⟨xs, ds2, q1, q2, q3⟩ := so.at_ n b eb
  rw [hd] at q2
  cases q2
  exact ⟨b, xs, e1, eb, q1, q3⟩
/-- x.append(e) -/
def appX (i : Nat) (f : XE) : XE := fun ρ => do
  let n ← cellNo i ρ
  let _ ← getM n
  let y ← f ρ
  let ds ← getM n
  if ds.length < sizeLine then do
    putM n (ds ++ [y])
    pure .none
  else fail
theorem one_arg {f : XE} {ρ : Rho} {st s : Sto} {y : PyData} (h : f ρ st = some (y, s)) : consX f nilX ρ st = some ([y], s) := by
  unfold consX
  rw [bind_eq h]
  rfl
theorem s_app {i : Nat} {o e : Expr} {apos : Pos} {f : XE} (h : PE X (.Call (.Attribute o "append" apos) [e] [] pos) (tBM X.K "list" rAppend (tVar i) (tA X.K (consX f nilX)))) :
    PE X (.Call (.Attribute o "append" apos) [e] [] pos) (tE X.K (appX i f)) := h.imp fun σ H Q ⟨ρ, cs, st, d, st', sl, so, ev, k⟩ => by
  obtain ⟨n, s0, e2, ev⟩ := bind_some ev
  obtain ⟨hi, rfl⟩ := cellNo_some e2
  obtain ⟨ds0, s0, e0, ev⟩ := bind_some ev
  obtain ⟨hd0, rfl⟩ := getM_some e0
  obtain ⟨y, s1, e1, ev⟩ := bind_some ev
  obtain ⟨ds, s3, e3, e4⟩ := bind_some ev
  obtain ⟨hd, rfl⟩ := getM_some e3
  split at e4
  · rename_i hlt
    obtain ⟨u, s4, e5, e6⟩ := bind_some e4
    cases e5
    obtain ⟨rfl, rfl⟩ := pure_some e6
    obtain ⟨a, xs0, ea, _, hq0, _⟩ := cell_at sl so hi hd0
    refine ⟨_, ea, .inl ⟨rfl, xs0, SqL.of hq0⟩, ρ, cs, st, [y], s1, sl, so, one_arg e1, fun vs H1 c1 x1 so1 q1 => ?_⟩
    cases q1 with
    | cons qa qb =>
      cases qb
      obtain ⟨b, ys, eb, hc, hH, r⟩ := cell_at (x1.slots so.lv sl) so1 hi hd
      rw [ea] at eb
      cases eb
      have hl := r.length
      obtain ⟨x2, so2⟩ := put_ok so1 hc (r.append (.cons qa .nil))
      exact ⟨a, ys, _, rfl, rfl, hH, by omega, k _ _ c1 (x1.trans x2) so2 .non⟩
  · exact (fail_some e4).elim
/-- x[j] = e of a list that may change: the value first, then the index -/
def putX (i : Nat) (fj f : XE) : XS := fun ρ => do
  let y ← f ρ
  let j ← fj ρ
  let n ← cellNo i ρ
  let ds ← getM n
  let m ← ofOpt (match j with | .int j => ixN ds.length j | _ => none)
  putM n (ds.set m y)
  pure (.nx ρ)
theorem s_put {i : Nat} {s : Stmt} {fj f : XE} (h : PS X s (tAsg (tE X.K f) (gSub (tVar i) (tE X.K fj) rSetL))) : PS X s (tS X.K (putX i fj f)) := h.imp fun D σ H ⟨ρ, cs, st, fl, st', sl, so, ev, k⟩ => by
  obtain ⟨y, s1, e1, ev⟩ := bind_some ev
  obtain ⟨j, s2, e2, ev⟩ := bind_some ev
  obtain ⟨n, s0, e3, ev⟩ := bind_some ev
  obtain ⟨hi, rfl⟩ := cellNo_some e3
  obtain ⟨ds, s3, e4, ev⟩ := bind_some ev
  obtain ⟨hd, rfl⟩ := getM_some e4
  obtain ⟨m, s3, e5, ev⟩ := bind_some ev
  obtain ⟨hm, rfl⟩ := ofOpt_some e5
  obtain ⟨u, s4, e6, ev⟩ := bind_some ev
  cases e6
  obtain ⟨rfl, rfl⟩ := pure_some ev
  obtain ⟨v0, q0, a, rfl, hn, hb⟩ := sl.at_ i _ hi
  refine ⟨ρ, cs, st, y, s1, sl, so, e1, fun v H1 c1 x1 so1 q1 => ⟨_, q0, ρ, c1, s1, j, s2, x1.slots so.lv sl, so1, e2, fun u H2 c2 x2 so2 q2 => ?_⟩⟩
  obtain ⟨b, ys, eb, hc, hH, r⟩ := cell_at (x2.slots so1.lv (x1.slots so.lv sl)) so2 hi hd
  rw [q0] at eb
  cases eb
  cases j with
  | int jj =>
    have hl := r.length
    obtain ⟨x3, so3⟩ := put_ok so2 hc (r.set (x2.dq q1) m)
    exact ⟨a, ys, jj, m, rfl, dq_int q2, hH, by rw [hl]; exact hm, k σ _ c2 ((x1.trans x2).trans x3) so3 (x3.slots so2.lv (x2.slots so1.lv (x1.slots so.lv sl)))⟩
  | _ => cases hm
/-- name op= e, on ints -/
def augX (i : Nat) (g : Int → Int → Int) (f : XE) : XS := fun ρ => do
  let x ← rdV i ρ
  let y ← f ρ
  match x, y with
  | .int a, .int b => pure (.nx (ρ.set i (some (.d (.int (g a b))))))
  | _, _ => fail
theorem s_aug {i : Nat} {s : Stmt} {g : Int → Int → Int} {f : XE} (h : PS X s (tAug i (tE X.K f) (ipI g))) : PS X s (tS X.K (augX i g f)) := h.imp fun D σ H ⟨ρ, cs, st, fl, st', sl, so, ev, k⟩ => by
  obtain ⟨x, s1, e1, ev⟩ := bind_some ev
  obtain ⟨hi, rfl⟩ := rdV_some e1
  obtain ⟨y, s2, e2, ev⟩ := bind_some ev
  obtain ⟨v, q1, q2⟩ := sl.at_ i _ hi
  refine ⟨v, q1, ρ, cs, st, y, s2, sl, so, e2, fun u H1 c1 x1 so1 qu => ?_⟩
  split at ev
  · obtain ⟨rfl, rfl⟩ := pure_some ev
    exact ⟨_, _, dq_int q2, dq_int qu, k _ H1 c1 x1 so1 ((x1.slots so.lv sl).set i (w := .d (.int _)) (.int _))⟩
  · exact (fail_some ev).elim
/-- a list that may change comes to rest (nothing in the program: a word of ours) -/
def frzS (i : Nat) : XS := fun ρ => do
  let n ← cellNo i ρ
  let ds ← getM n
  fun st => some (.nx (ρ.set i (some (.d (.list ds)))), st.set n none)
theorem frz_ok {K : PySem.W.Frag} {σ : L2.St} {H : Hp} {ρ : Rho} {cs : CS} {i n : Nat} {st : Sto} {ds : List PyData} (sl : Slots K σ H ρ cs) (so : StoOk H cs st) (hi : ρ[i]? = some (some (.c n))) (hd : st[n]? = some (some ds)) :
    ∃ cs', Ext H cs H cs' ∧ StoOk H cs' (st.set n none) ∧ Slots K σ H (ρ.set i (some (.d (.list ds)))) cs' := by
  obtain ⟨a, xs, ea, hc, hH, r⟩ := cell_at sl so hi hd
  have hcn : n < cs.c.length := (List.getElem?_eq_some_iff.mp hc).1
  have sub : ∀ (m : Nat) (b : Addr), (cs.c.set n none)[m]? = some (some b) → n ≠ m ∧ cs.c[m]? = some (some b) := fun m b q => by
    by_cases z : n = m
    · subst z
      rw [List.getElem?_set_self hcn] at q
      cases q
    · rw [List.getElem?_set_ne z] at q
      exact ⟨z, q⟩
  have x : Ext H cs H ⟨cs.c.set n none, cs.r⟩ := ⟨fun b o h _ => h, fun b h => by
    obtain ⟨m, q⟩ := List.getElem?_of_mem h
    exact .inl (List.mem_of_getElem? (sub m b q).2), rfl, by simp, fun m b _ q => (sub m b q).2, fun b o h => ⟨o, h⟩⟩
  have so' : StoOk H ⟨cs.c.set n none, cs.r⟩ (st.set n none) := ⟨by simp [so.len], fun m b q => by
    obtain ⟨ne, q'⟩ := sub m b q
    obtain ⟨ys, es, h1, h2, h3⟩ := so.at_ m b q'
    exact ⟨ys, es, h1, by rw [List.getElem?_set_ne ne]; exact h2, x.dqs h3⟩, fun m es q => by
    by_cases z : n = m
    · subst z
      rw [List.getElem?_set_self (by rw [← so.len]; exact hcn)] at q
      cases q
    · rw [List.getElem?_set_ne z] at q
      obtain ⟨b, q'⟩ := so.has m es q
      exact ⟨b, by show (cs.c.set n none)[m]? = _; rw [List.getElem?_set_ne z]; exact q'⟩, fun m1 m2 b q1 q2 => so.inj m1 m2 b (sub m1 b q1).2 (sub m2 b q2).2, fun b h => by
    obtain ⟨q1, q2⟩ := so.res b h
    exact ⟨fun z => by
      obtain ⟨m, q⟩ := List.getElem?_of_mem z
      exact q1 (List.mem_of_getElem? (sub m b q).2), q2⟩⟩
  refine ⟨_, x, so', ?_⟩
  have nl : ¬ Live ⟨cs.c.set n none, cs.r⟩ a := by
    rintro (q | q)
    · obtain ⟨m, q⟩ := List.getElem?_of_mem q
      obtain ⟨ne, q'⟩ := sub m a q
      exact ne (so.inj n m a hc q')
    · exact (so.res a q).1 (List.mem_of_getElem? hc)
  have z := (x.slots so.lv sl).set i (v := .ref a) (w := .d (.list ds)) (.lst hH nl (x.dqs r))
  have eσ : σ.set i (some (.ref a)) = σ := by
    apply List.ext_getElem?
    intro j
    by_cases zz : i = j
    · subst zz
      rw [List.getElem?_set_self (List.getElem?_eq_some_iff.mp ea).1]
      exact ea.symm
    · rw [List.getElem?_set_ne zz]
  rw [eσ] at z
  exact z
theorem s_frz {i : Nat} {ss : List Stmt} {f : XS} (h : PSs X ss (tS X.K f)) : PSs X ss (tS X.K (seqS (frzS i) f)) := h.imp fun D σ H ⟨ρ, cs, st, fl, st', sl, so, ev, k⟩ => by
  obtain ⟨fl1, s1, e1, ev⟩ := bind_some ev
  obtain ⟨n, s0, e2, e1⟩ := bind_some e1
  obtain ⟨hi, rfl⟩ := cellNo_some e2
  obtain ⟨ds, s3, e4, e1⟩ := bind_some e1
  obtain ⟨hd, rfl⟩ := getM_some e4
  cases e1
  obtain ⟨cs', x, so', sl'⟩ := frz_ok sl so hi hd
  exact ⟨_, cs', _, fl, st', sl', so', ev, k.ext x⟩
end
end EF

set_option Elab.async false
set_option linter.all false
set_option maxRecDepth 100000
/-! EF7: defs and their calls. -/
namespace EF
open PySem PySem.Spec PyProof.Rows L2

/-- a def keeps its promise where no text of an object is being made (so that repr may be called) -/
structure FnG (P : Program) (w : World) (K : PySem.W.Frag) (mg : Str → Option Value) (base : Heap) (k : Nat) (f : Addr) (fd : FuncData) (ps : List Str) (sp : Sp) : Prop where
  len : ∀ vs H Q, sp vs H Q E0 → vs.length = ps.length
  run : ∀ (A : Around) (outer : List Env) (s : Shared) (H : Hp) (args : Args) (us : List Value) (vs : List V) (Q : VK), A.guards = some [] → Room k A → Env0 P w K mg base A outer s H →
    BindsTo s fd args (ps.zip us) → Vals vs us → sp vs H Q E0 → codeAny (model P w) A (.call (.ref f) args) (CR CX0 outer P w H s Q E0) s
/-- what a def of data does -/
def spG (K : PySem.W.Frag) (np : Nat) (g : List W → M W) : Sp := fun vs H Q _ => vs.length = np ∧ ∃ ws cs st w st', RWs K H cs vs ws ∧ StoOk H cs st ∧ g ws st = some (w, st') ∧
  ∀ v H' cs', Ext H cs H' cs' → StoOk H' cs' st' → RW K H' cs' v w → Q v H'

section
variable {P : Program} {w : World} {K : PySem.W.Frag} {mg : Str → Option Value} {base : Heap}
/-- by its body -/
theorem FnG.body {k : Nat} {f : Addr} {x qual : Str} {st : Stmt} {fd : FuncData} {N ps : List Str} {sp : Sp} (F : Fun K x qual st f fd) (S : FnScope N ps (defScope st)) (len : ∀ vs H Q, sp vs H Q E0 → vs.length = ps.length)
    (hb : ∀ (cdv : Value) (A : Around) (outer : List Env) (s : Shared) (H : Hp) (vs : List V) (Q : VK), A.guards = some [] → Room k (A.deeper (envOfC qual (defScope st) s.heap.objs.size f cdv)) → sp vs H Q E0 →
      ∃ t, PSs (cxOf CX0 P w K mg base N qual (defScope st) f cdv A outer s H E0) (defBody st) t ∧ t { nx := fun _ H' => Q .non H', rt := Q } (L2.start N vs) H) : FnG P w K mg base (k + 1) f fd ps sp := by
  obtain ⟨oc, od, kV, doc, pm, an, cdv, ct, osl, rfl, lk, hcd⟩ := F.ex
  refine ⟨len, ?_⟩
  intro A outer s H args us vs Q hg hr e0 bi r hsp
  have own : ∀ b o, base.get? b = some o → s.heap.get? b = some o := fun b o e => (e0.bs b o e).1
  have kin := e0.mod.kin.keeps own
  refine codeAny_call_function hr.depth (kin _ _ lk) rfl S.co S.gen rfl (PySem.W.codeRec_of kin hcd) (bi _ _ _ _ ?_)
  refine wpAny_newFunctionEnv_cells S.kind ?_ ?_
  · rintro ⟨n, v⟩ hy
    rcases S.par n (List.of_mem_zip hy).1 with q | q
    · exact Or.inl q
    · exact Or.inr ⟨q, PySem.W.cellsFrom_some _ _ _ (Or.inl q)⟩
  · rintro env rfl s1 xc
    refine ⟨(e0.mod.nolimit.keeps own).keeps xc.toInCall.keep, codeAny_func ?_⟩
    obtain ⟨t, ht, q⟩ := hb cdv A outer s H vs Q hg (hr.deeper _) hsp
    have I0 := inv_start (CX := CX0) (E := E0) S hr.hd e0 (len _ _ _ hsp) r xc
    refine wpAny_mono (ht.run [] s1 (L2.start N vs) H _ I0 q) ?_ fun _ _ z => z
    intro fl s' hs
    cases fl with
    | ret u =>
      obtain ⟨v, σ', H', J, rv, q'⟩ := hs
      exact ⟨v, H', J.os, J.bare, J.base, J.hok, rv, q'⟩
    | next =>
      obtain ⟨σ', H', J, q'⟩ := hs
      exact ⟨.non, H', J.os, J.bare, J.base, J.hok, rfl, q'⟩
    | brk =>
      obtain ⟨_, _, _, z⟩ := hs
      exact z.elim
    | cont =>
      obtain ⟨_, _, _, z⟩ := hs
      exact z.elim

/-! ### what a body makes of its arguments -/
def startR (n : Nat) (ws : List W) : Rho := ws.map some ++ List.replicate (n - ws.length) none
def endM : Fl × Sto → Nat → Option (W × Sto)
  | (.rt (.d x), s), n => some (.d x, s.take n)
  | (.nx _, s), n => some (.d .none, s.take n)
  | (.rt (.c m), s), n => if m = n ∧ n < s.length then some (.c m, s.take (n + 1)) else none
  | _, _ => none
/-- n names, np of them parameters -/
def fnM (n : Nat) (body : XS) : List W → M W := fun ws st => (body (startR n ws) st).bind fun r => endM r st.length
theorem start_slots {H : Hp} {cs : CS} {N : List Str} {vs : List V} {ws : List W} (r : RWs K H cs vs ws) : Slots K (L2.start N vs) H (startR N.length ws) cs := by
  have hl : vs.length = ws.length := Paired.length r
  refine ⟨by unfold L2.start startR; simp [hl], fun i w e => ?_⟩
  have hi : i < ws.length := by
    unfold startR at e
    by_cases hi : i < ws.length
    · exact hi
    · rw [List.getElem?_append_right (by simpa using hi), List.getElem?_replicate] at e
      split at e <;> cases e
  unfold startR at e
  rw [List.getElem?_append_left (by simpa using hi), List.getElem?_map] at e
  have : ∃ v, vs[i]? = some v ∧ RW K H cs v w := by
    clear hl
    induction r generalizing i with
    | nil => simp at hi
    | cons q t ih =>
      cases i with
      | zero =>
        simp at e
        subst e
        exact ⟨_, rfl, q⟩
      | succ i => exact ih i (by simpa using e) (by simpa using hi)
  obtain ⟨v, ev, q⟩ := this
  refine ⟨v, ?_, q⟩
  unfold L2.start
  rw [List.getElem?_append_left (by rw [List.length_map, hl]; exact hi), List.getElem?_map, ev]
  rfl
/-- what a def has made for itself is forgotten -/
theorem cut_ok {H H' : Hp} {cs cs' : CS} {st' : Sto} {n : Nat} (x : Ext H cs H' cs') (so : StoOk H' cs' st') (hn : cs.c.length ≤ n) :
    Ext H cs H' ⟨cs'.c.take n, cs'.r⟩ ∧ StoOk H' ⟨cs'.c.take n, cs'.r⟩ (st'.take n) ∧ ∀ v d, Dq H' cs' v d → Dq H' ⟨cs'.c.take n, cs'.r⟩ v d := by
  have sub : ∀ (m : Nat) (b : Addr), (cs'.c.take n)[m]? = some (some b) → m < n ∧ cs'.c[m]? = some (some b) := fun m b q => by
    by_cases z : m < n
    · rw [List.getElem?_take_of_lt z] at q
      exact ⟨z, q⟩
    · rw [List.getElem?_eq_none (by rw [List.length_take]; omega)] at q
      cases q
  have mem : ∀ b : Addr, some b ∈ cs'.c.take n → some b ∈ cs'.c := fun b h => List.mem_of_mem_take h
  have dq : ∀ a o, H' a = some o → ¬ Live cs' a → ¬ Live ⟨cs'.c.take n, cs'.r⟩ a := fun a o _ l q => l (q.elim (fun z => .inl (mem a z)) .inr)
  refine ⟨⟨x.keep, fun a h => x.new a (mem a h), x.res, by rw [List.length_take]; have := x.len; omega, fun m a h q => x.old m a h (sub m a q).2, x.there⟩,
    ⟨by rw [List.length_take, List.length_take, so.len], fun m a q => ?_, fun m es q => ?_, fun m1 m2 a q1 q2 => so.inj m1 m2 a (sub m1 a q1).2 (sub m2 a q2).2, fun a h => ?_⟩, fun v d h => h.mono (fun a o h _ => h) dq⟩
  · obtain ⟨hm, q'⟩ := sub m a q
    obtain ⟨ys, es, h1, h2, h3⟩ := so.at_ m a q'
    exact ⟨ys, es, h1, by rw [List.getElem?_take_of_lt hm]; exact h2, h3.mono (fun a o h _ => h) dq⟩
  · have hm : m < n := by
      by_cases z : m < n
      · exact z
      · rw [List.getElem?_eq_none (by rw [List.length_take]; omega)] at q
        cases q
    rw [List.getElem?_take_of_lt hm] at q
    obtain ⟨a, q'⟩ := so.has m es q
    exact ⟨a, by show (cs'.c.take n)[m]? = _; rw [List.getElem?_take_of_lt hm]; exact q'⟩
  · obtain ⟨q1, q2⟩ := so.res a h
    exact ⟨fun z => q1 (mem a z), q2⟩
/-- a def whose body is read by fb -/
theorem FnG.of {k : Nat} {f : Addr} {x qual : Str} {st : Stmt} {fd : FuncData} {N ps : List Str} {fb : XS} (F : Fun K x qual st f fd) (S : FnScope N ps (defScope st))
    (hb : ∀ (cdv : Value) (A : Around) (outer : List Env) (s : Shared) (H : Hp), A.guards = some [] → Room k (A.deeper (envOfC qual (defScope st) s.heap.objs.size f cdv)) →
      PSs (cxOf CX0 P w K mg base N qual (defScope st) f cdv A outer s H E0) (defBody st) (tS K fb)) : FnG P w K mg base (k + 1) f fd ps (spG K ps.length (fnM N.length fb)) := by
  refine FnG.body F S (fun vs H Q h => h.1) fun cdv A outer s H vs Q hg hr ⟨hl, ws, cs, s0, r, s1, rw', so, e, kk⟩ => ⟨_, hb cdv A outer s H hg hr, ?_⟩
  unfold fnM at e
  cases eb : fb (startR N.length ws) s0 with
  | none => rw [eb] at e; cases e
  | some p =>
    obtain ⟨fl, s2⟩ := p
    rw [eb] at e
    have e' : endM (fl, s2) s0.length = some (r, s1) := e
    have hlen : cs.c.length = s0.length := so.len
    refine ⟨_, cs, s0, fl, s2, start_slots rw', so, eb, ?_⟩
    cases fl with
    | nx ρ' =>
      cases e'
      intro σ' H' cs' x so' sl'
      obtain ⟨x2, so2, dq⟩ := cut_ok (n := s0.length) x so' (Nat.le_of_eq hlen)
      exact kk .non H' _ x2 so2 .non
    | bk ρ' => cases e'
    | ct ρ' => cases e'
    | rt wv =>
      intro v H' cs' x so' q
      cases wv with
      | d y =>
        cases e'
        obtain ⟨x2, so2, dq⟩ := cut_ok (n := s0.length) x so' (Nat.le_of_eq hlen)
        exact kk v H' _ x2 so2 (dq v y q)
      | s xs => cases e'
      | c m =>
        have e2 : (if m = s0.length ∧ s0.length < s2.length then some (W.c m, s2.take (s0.length + 1)) else none) = some (r, s1) := e'
        split at e2
        · rename_i hm
          cases e2
          obtain ⟨x2, so2, dq⟩ := cut_ok (n := s0.length + 1) x so' (by omega)
          obtain ⟨a, rfl, hn, hbb⟩ := q
          refine kk _ H' _ x2 so2 ⟨a, rfl, ?_, fun b q' => hbb b ?_⟩
          · show m < (cs'.c.take (s0.length + 1)).length
            rw [List.length_take]
            omega
          · have q2 : (cs'.c.take (s0.length + 1))[m]? = some (some b) := q'
            rw [List.getElem?_take_of_lt (by omega)] at q2
            exact q2
        · cases e2
end

/-! ### calls -/
section
variable {X : Cx} {k : Nat} {f : Addr} {fd : FuncData} {ps : List Str} {sp : Sp} {x : Str} {p pos : Pos} {e : Expr} {es : List Expr} {t : TA}
theorem run_g {pins : List (Addr × Obj)} {σ : L2.St} {H : Hp} {s : Shared} {Q : VK} {us : List Value} {kw : List (Str × Value)} {zs : List Value} {vs : List V} (F : FnG X.prog X.w X.K X.mg X.base k f fd ps sp) (hg : X.A.guards = some []) (hr : Room k X.A)
    (hb : BindsTo s fd ⟨us, kw⟩ (ps.zip zs)) (I : Inv X pins σ H s) (r : Vals vs zs) (h : sp vs H Q E0) : wpAny (model X.prog X.w) X.A (call (.ref f) us kw) (EP X pins σ Q) X.xe s := by
  refine wpAny_call (codeAny_mono (F.run X.A X.stack s H ⟨us, kw⟩ zs vs Q hg hr I.env0 hb r h) ?_)
  intro res s' hq
  cases res with
  | error e => exact hq.elim
  | ok fl =>
    cases fl with
    | ret u => exact I.after hq
    | next => exact hq.elim
    | brk => exact hq.elim
    | cont => exact hq.elim
def tCl (sp : Sp) (t : TA) : TE := fun σ H Q => t σ H fun vs H1 => sp vs H1 Q E0
theorem pe_callg (F : FnG X.prog X.w X.K X.mg X.base k f fd ps sp) (hgd : X.A.guards = some []) (hr : Room k X.A) (hg : Gl X x) (hm : X.mg x = some (.ref f)) (hk : PySem.W.keepIn X.K (.ref f) = true) (hb : Binds X.K fd ps [])
    (ha : PA X (e :: es) t) (hdb : (x == ("__debug__" : Str)) = false) (he : starEach (e :: es) X.env = (false, eval e X.env) :: starEach es X.env) (hpl : (backTo pos (starEach es X.env)).any (·.1) = false) :
    PE X (.Call (.Name x p) (e :: es) [] pos) (tCl sp t) := by
  refine ⟨fun pins s σ H Q I h => wpAny_Call_Name_kw (ld_glob I hg hm (PySem.W.callWith_K (h₀ := X.base) I.ok.mod.kin hk (thn (ha.run pos pins s σ H _ I h) ?_) he hpl) hdb)⟩
  rintro us s1 ⟨vs, H1, J, r, q⟩
  refine ⟨J.kIn, run_g F hgd hr ?_ J r q⟩
  have hl : (us ++ []).length = ps.length := by rw [List.append_nil, ← r.length]; exact F.len _ _ _ q
  have z := hb s1 us J.kIn hl
  rw [List.append_nil] at z
  exact z
/-- f(e, .., k = v, ..): pi puts the written values, the positional ones first, in the parameters' order -/
def pick {α : Type} (pi : List Nat) (d : α) (xs : List α) : List α := pi.map fun i => xs.getD i d
theorem pick_vals {vs : List V} {us : List Value} (r : Vals vs us) : ∀ pi : List Nat, Vals (pick pi .non vs) (pick pi Value.none us)
  | [] => .nil
  | i :: pi => by
    refine .cons ?_ (pick_vals r pi)
    show RelV (vs.getD i .non) (us.getD i Value.none)
    rw [List.getD_eq_getElem?_getD, List.getD_eq_getElem?_getD]
    cases q : vs[i]? with
    | none => rw [r.none_of q]; exact rfl
    | some v =>
      obtain ⟨u, e1, e2⟩ := r.get q
      rw [e1]; exact e2
/-- how the keywords bind -/
def KwB (K : PySem.W.Frag) (fd : FuncData) (ps : List Str) (n : Nat) (ks : List Str) (pi : List Nat) : Prop :=
  ∀ (s : Shared) (us ws : List Value), K.In s.heap → us.length = n → ws.length = ks.length → BindsTo s fd ⟨us, ks.zip ws⟩ (ps.zip (pick pi Value.none (us ++ ws)))
def tClK (sp : Sp) (n m : Nat) (pi : List Nat) (t tk : TA) : TE := fun σ H Q => t σ H fun vs H1 => tk σ H1 fun zs H2 => vs.length = n ∧ zs.length = m ∧ sp (pick pi .non (vs ++ zs)) H2 Q E0
variable {ks : List Str} {kws : List Keyword} {pi : List Nat} {n : Nat} {tk : TA}
theorem pe_callgk (F : FnG X.prog X.w X.K X.mg X.base k f fd ps sp) (hgd : X.A.guards = some []) (hr : Room k X.A) (hg : Gl X x) (hm : X.mg x = some (.ref f)) (hk : PySem.W.keepIn X.K (.ref f) = true) (hb : KwB X.K fd ps n ks pi)
    (ha : PA X (e :: es) t) (hkw : PK X kws tk) (hall : (backToKw pos (keywordEach kws X.env)).all (·.1.isSome) = true) (hks : (backToKw pos (keywordEach kws X.env)).filterMap (·.1) = ks)
    (hdb : (x == ("__debug__" : Str)) = false) (he : starEach (e :: es) X.env = (false, eval e X.env) :: starEach es X.env) (hpl : ((backTo pos (starEach (e :: es) X.env)).any (·.1) || (backToKw pos (keywordEach kws X.env)).any (·.1.isNone)) = false) :
    PE X (.Call (.Name x p) (e :: es) kws pos) (tClK sp n ks.length pi t tk) := by
  refine ⟨fun pins s σ H Q I h => wpAny_Call_Name_kw (ld_glob I hg hm (PySem.W.callWith_KW (h₀ := X.base) I.ok.mod.kin hk hall (thn (ha.run pos pins s σ H _ I h) ?_) hpl he) hdb)⟩
  rintro us s1 ⟨vs, H1, J, r, q⟩
  refine thn (hkw.run pos pins s1 σ H1 _ J q) ?_
  rintro ws s2 ⟨zs, H2, J2, rz, h1, h2, q2⟩
  refine ⟨J2.kIn, ?_⟩
  rw [hks]
  exact run_g F hgd hr (hb s2 us ws J2.kIn (by rw [← r.length]; exact h1) (by rw [← rz.length]; exact h2)) J2 (pick_vals (r.append rz) pi) q2
theorem pe_callgk0 (F : FnG X.prog X.w X.K X.mg X.base k f fd ps sp) (hgd : X.A.guards = some []) (hr : Room k X.A) (hg : Gl X x) (hm : X.mg x = some (.ref f)) (hk : PySem.W.keepIn X.K (.ref f) = true) (hb : KwB X.K fd ps 0 ks pi)
    (hkw : PK X kws tk) (hall : (backToKw pos (keywordEach kws X.env)).all (·.1.isSome) = true) (hks : (backToKw pos (keywordEach kws X.env)).filterMap (·.1) = ks)
    (hdb : (x == ("__debug__" : Str)) = false) (hpl : ((backTo pos (starEach [] X.env)).any (·.1) || (backToKw pos (keywordEach kws X.env)).any (·.1.isNone)) = false) :
    PE X (.Call (.Name x p) [] kws pos) (tClK sp 0 ks.length pi tNil tk) := by
  refine ⟨fun pins s σ H Q I h => wpAny_Call_Name_kw (ld_glob I hg hm (PySem.W.callWith_KW0 (h₀ := X.base) I.ok.mod.kin hk hall (thn (hkw.run pos pins s σ H _ I h) ?_) hpl) hdb)⟩
  rintro ws s2 ⟨zs, H2, J2, rz, h1, h2, q2⟩
  refine ⟨J2.kIn, ?_⟩
  rw [hks]
  exact run_g F hgd hr (hb s2 [] ws J2.kIn rfl (by rw [← rz.length]; exact h2)) J2 (pick_vals (Vals.append .nil rz) pi) q2

/-! ### their readings by data -/
def nilW : Rho → M (List W) := fun _ => pure []
def consW (f : Rho → M W) (r : Rho → M (List W)) : Rho → M (List W) := fun ρ => do let x ← f ρ; let xs ← r ρ; pure (x :: xs)
def datW (f : XE) : Rho → M W := fun ρ => do let x ← f ρ; pure (.d x)
/-- a list that may change is handed on -/
def celW (i : Nat) : Rho → M W := fun ρ => do let n ← cellNo i ρ; pure (.c n)
def tV (K : PySem.W.Frag) (f : Rho → M W) : TE := fun σ H Q => ∃ ρ cs st w st', Slots K σ H ρ cs ∧ StoOk H cs st ∧ f ρ st = some (w, st') ∧
  ∀ v H' cs', Ext H cs H' cs' → StoOk H' cs' st' → RW K H' cs' v w → Q v H'
theorem s_dat {f : XE} (h : PE X e (tE X.K f)) : PE X e (tV X.K (datW f)) := h.imp fun σ H Q ⟨ρ, cs, st, w, st', sl, so, ev, kk⟩ => by
  obtain ⟨y, s1, e1, e2⟩ := bind_some ev
  obtain ⟨rfl, rfl⟩ := pure_some e2
  exact ⟨ρ, cs, st, y, s1, sl, so, e1, fun v H1 c1 x1 so1 q => kk v H1 c1 x1 so1 q⟩
theorem s_cel {i : Nat} (h : PE X e (tVar i)) : PE X e (tV X.K (celW i)) := h.imp fun σ H Q ⟨ρ, cs, st, w, st', sl, so, ev, kk⟩ => by
  obtain ⟨n, s1, e1, e2⟩ := bind_some ev
  obtain ⟨rfl, rfl⟩ := pure_some e2
  obtain ⟨hi, rfl⟩ := cellNo_some e1
  obtain ⟨v, q1, q2⟩ := sl.at_ i _ hi
  exact ⟨v, q1, kk v H cs .refl so q2⟩
theorem s_wnil : PA X [] (tW X.K nilW) := pa_nil.imp fun σ H Q ⟨ρ, cs, st, d, st', sl, so, e, kk⟩ => by
  obtain ⟨rfl, rfl⟩ := pure_some e
  exact kk [] H cs .refl so .nil
theorem s_wcons {f : Rho → M W} {r : Rho → M (List W)} (ha : PE X e (tV X.K f)) (hr : PA X es (tW X.K r)) (hs : starEach (e :: es) X.env = (false, eval e X.env) :: starEach es X.env) : PA X (e :: es) (tW X.K (consW f r)) :=
  (pa_cons ha hr hs).imp fun σ H Q ⟨ρ, cs, st, d, st', sl, so, e, kk⟩ => by
    obtain ⟨x, s1, e1, e'⟩ := bind_some e
    obtain ⟨xs, s2, e2, e3⟩ := bind_some e'
    obtain ⟨rfl, rfl⟩ := pure_some e3
    exact ⟨ρ, cs, st, x, s1, sl, so, e1, fun v H1 c1 x1 so1 q1 => ⟨ρ, c1, s1, xs, s2, x1.slots so.lv sl, so1, e2, fun vs H2 c2 x2 so2 q2 => kk _ H2 c2 (x1.trans x2) so2 (.cons (x2.rw so1.lv q1) q2)⟩⟩
theorem s_knil : PK X [] (tW X.K nilW) := ⟨fun pos pins s σ H Q I ⟨ρ, cs, st, d, st', sl, so, e, kk⟩ => by
  obtain ⟨rfl, rfl⟩ := pure_some e
  exact pk_nil.run pos pins s σ H Q I (kk [] H cs .refl so .nil)⟩
theorem s_kcons {f : Rho → M W} {r : Rho → M (List W)} {nm : Option Str} {kpos : Pos} (ha : PE X e (tV X.K f)) (hr : PK X kws (tW X.K r)) : PK X (⟨nm, e, kpos⟩ :: kws) (tW X.K (consW f r)) :=
  ⟨fun pos pins s σ H Q I ⟨ρ, cs, st, d, st', sl, so, e, kk⟩ => by
    obtain ⟨x, s1, e1, e'⟩ := bind_some e
    obtain ⟨xs, s2, e2, e3⟩ := bind_some e'
    obtain ⟨rfl, rfl⟩ := pure_some e3
    exact (pk_cons ha hr).run pos pins s σ H Q I ⟨ρ, cs, st, x, s1, sl, so, e1, fun v H1 c1 x1 so1 q1 => ⟨ρ, c1, s1, xs, s2, x1.slots so.lv sl, so1, e2, fun vs H2 c2 x2 so2 q2 => kk _ H2 c2 (x1.trans x2) so2 (.cons (x2.rw so1.lv q1) q2)⟩⟩⟩
/-- data that a def hands back -/
def wD : W → M PyData
  | .d x => pure x
  | _ => fail
def callX (g : List W → M W) (r : Rho → M (List W)) : XE := fun ρ => do let ws ← r ρ; let w ← g ws; wD w
theorem wD_some {w : W} {d : PyData} {st s : Sto} (h : wD w st = some (d, s)) : w = .d d ∧ st = s := by
  cases w with
  | d x =>
    obtain ⟨rfl, rfl⟩ := pure_some h
    exact ⟨rfl, rfl⟩
  | c n => exact (fail_some (st := st) h).elim
  | s xs => exact (fail_some (st := st) h).elim
theorem s_call {np : Nat} {g : List W → M W} {r : Rho → M (List W)} (hn : es.length = np) (h : PE X e (tCl (spG X.K np g) (tW X.K r))) (hlen : ∀ ρ st ws s, r ρ st = some (ws, s) → ws.length = np) : PE X e (tE X.K (callX g r)) := h.imp fun σ H Q ⟨ρ, cs, st, d, st', sl, so, ev, kk⟩ => by
  obtain ⟨ws, s1, e1, e'⟩ := bind_some ev
  obtain ⟨w, s2, e2, e3⟩ := bind_some e'
  obtain ⟨rfl, rfl⟩ := wD_some e3
  exact ⟨ρ, cs, st, ws, s1, sl, so, e1, fun vs H1 c1 x1 so1 q1 => ⟨(Paired.length q1).trans (hlen _ _ _ _ e1), ws, c1, s1, .d d, s2, q1, so1, e2, fun v H2 c2 x2 so2 q2 => kk v H2 c2 (x1.trans x2) so2 q2⟩⟩
/-- name = f(..), a def that hands back a new list that may change -/
def setcX (i : Nat) (g : List W → M W) (r : Rho → M (List W)) : XS := fun ρ => do let ws ← r ρ; let w ← g ws; pure (.nx (ρ.set i (some w)))
theorem s_setc {np i : Nat} {s : Stmt} {g : List W → M W} {r : Rho → M (List W)} (h : PS X s (tAsg (tCl (spG X.K np g) (tW X.K r)) (gName i))) (hlen : ∀ ρ st ws s, r ρ st = some (ws, s) → ws.length = np) : PS X s (tS X.K (setcX i g r)) := h.imp fun D σ H ⟨ρ, cs, st, fl, st', sl, so, ev, kk⟩ => by
  obtain ⟨ws, s1, e1, e'⟩ := bind_some ev
  obtain ⟨w, s2, e2, e3⟩ := bind_some e'
  obtain ⟨rfl, rfl⟩ := pure_some e3
  exact ⟨ρ, cs, st, ws, s1, sl, so, e1, fun vs H1 c1 x1 so1 q1 => ⟨(Paired.length q1).trans (hlen _ _ _ _ e1), ws, c1, s1, w, s2, q1, so1, e2, fun v H2 c2 x2 so2 q2 => kk _ H2 c2 (x1.trans x2) so2 (((x1.trans x2).slots so.lv sl).set i q2)⟩⟩
theorem paired_append {α β : Type} {R : α → β → Prop} : ∀ {a c : List α} {b d : List β}, Paired R a b → Paired R c d → Paired R (a ++ c) (b ++ d)
  | _, _, _, _, .nil, s => s
  | _, _, _, _, .cons q t, s => .cons q (paired_append t s)
theorem pick_rws {K : PySem.W.Frag} {H : Hp} {cs : CS} {vs : List V} {ws : List W} (r : RWs K H cs vs ws) : ∀ {pi : List Nat}, (∀ i ∈ pi, i < ws.length) → RWs K H cs (pick pi .non vs) (pick pi (.d .none) ws)
  | [], _ => .nil
  | i :: pi, h => by
    refine .cons ?_ (pick_rws r fun j hj => h j (List.mem_cons_of_mem _ hj))
    have hi := h i List.mem_cons_self
    show RW K H cs (vs.getD i .non) (ws.getD i (.d .none))
    clear h
    induction r generalizing i with
    | nil => simp at hi
    | cons q t ih =>
      cases i with
      | zero => exact q
      | succ i => exact ih i (by simpa using hi)
def callKX (g : List W → M W) (n m : Nat) (pi : List Nat) (r rk : Rho → M (List W)) : XE := fun ρ => do
  let ws ← r ρ
  let zs ← rk ρ
  if ws.length = n ∧ zs.length = m ∧ (pi.all fun i => decide (i < n + m)) = true then do
    let w ← g (pick pi (.d .none) (ws ++ zs))
    wD w
  else fail
theorem s_callk {g : List W → M W} {np m : Nat} {r rk : Rho → M (List W)} {t' : TA} (ht : ∀ σ H Q, tW X.K r σ H Q → t' σ H Q) (hp : pi.length = np) (h : PE X e (tClK (spG X.K np g) n m pi t' (tW X.K rk))) : PE X e (tE X.K (callKX g n m pi r rk)) := h.imp fun σ H Q ⟨ρ, cs, st, d, st', sl, so, ev, kk⟩ => by
  obtain ⟨ws, s1, e1, e'⟩ := bind_some ev
  obtain ⟨zs, s2, e2, e3⟩ := bind_some e'
  split at e3
  · rename_i hc
    obtain ⟨h1, h2, h3⟩ := hc
    obtain ⟨w, s3, e4, e5⟩ := bind_some e3
    obtain ⟨rfl, rfl⟩ := wD_some e5
    refine ht _ _ _ ⟨ρ, cs, st, ws, s1, sl, so, e1, fun vs H1 c1 x1 so1 q1 => ⟨ρ, c1, s1, zs, s2, x1.slots so.lv sl, so1, e2, fun us H2 c2 x2 so2 q2 => ⟨(Paired.length q1).trans h1, (Paired.length q2).trans h2, ?_, _, c2, s2, .d d, s3, ?_, so2, e4, fun v H3 c3 x3 so3 q3 => kk v H3 c3 ((x1.trans x2).trans x3) so3 q3⟩⟩⟩
    · unfold pick; rw [List.length_map]; exact hp
    · refine pick_rws (paired_append (x2.rws so1.lv q1) q2) ?_
      · intro i hi
        rw [List.length_append, h1, h2]
        exact of_decide_eq_true (List.all_eq_true.mp h3 i hi)
  · exact (fail_some e3).elim
end
end EF

set_option Elab.async false
set_option linter.all false
set_option maxRecDepth 100000
/-! EF8: operators and built-in functions, by data. -/
namespace EF
open PySem PySem.Spec PyProof.Rows L2

section
variable {X : Cx} {e a b : Expr} {pos : Pos}
/-! ### operators on two values that are kept -/
def OpQ (K : PySem.W.Frag) (r : R2) (g : PyData → PyData → Option PyData) : Prop :=
  ∀ (H : Hp) (cs : CS) (x y : V) (d e z : PyData) (Q : VK), LvOk H cs → Dq H cs x d → Dq H cs y e → g d e = some z → (∀ v H', Same H H' → Dq H' cs v z → Q v H') → r x y H Q
theorem s_binq {op : Operator} {r : R2} {g : PyData → PyData → Option PyData} {f1 f2 : XE} (ho : OpR X (binaryOp op) r) (hr : OpQ X.K r g) (ha : PE X a (tE X.K f1)) (hb : PE X b (tE X.K f2)) : PE X (.BinOp a op b pos) (tE X.K (bin2 g f1 f2)) :=
  (pe_op ho ha hb).imp fun σ H Q ⟨ρ, cs, st, d, st', sl, so, ev, k⟩ => by
    obtain ⟨x, s1, e1, e'⟩ := bind_some ev
    obtain ⟨y, s2, e2, e3⟩ := bind_some e'
    obtain ⟨e4, rfl⟩ := ofOpt_some e3
    exact ⟨ρ, cs, st, x, s1, sl, so, e1, fun v H1 c1 x1 so1 q1 => ⟨ρ, c1, s1, y, s2, x1.slots so.lv sl, so1, e2, fun u H2 c2 x2 so2 q2 =>
      hr H2 c2 v u x y d Q so2.lv (x2.dq q1) q2 e4 fun w H3 s3 q3 => k w H3 c2 ((x1.trans x2).trans (Ext.same s3)) (so2.same s3) q3⟩⟩
theorem OpQ.or {K : PySem.W.Frag} {r r' : R2} {g g' : PyData → PyData → Option PyData} (h : OpQ K r g) (h' : OpQ K r' g') : OpQ K (fun x y H Q => r x y H Q ∨ r' x y H Q) (fun d e => (g d e).or (g' d e)) := by
  intro H cs x y d e z Q lv hx hy hg k
  have hg : (g d e).or (g' d e) = some z := hg
  cases q : g d e with
  | some z' =>
    rw [q] at hg
    cases hg
    exact .inl (h H cs x y d e _ Q lv hx hy q k)
  | none =>
    rw [q] at hg
    exact .inr (h' H cs x y d e z Q lv hx hy hg k)
/-- ints -/
def iiD (c : Int → Int → Bool) (g : Int → Int → PyData) : PyData → PyData → Option PyData
  | .int i, .int j => if c i j = true then some (g i j) else none
  | _, _ => none
theorem ii_q {K : PySem.W.Frag} {C : Int → Int → Prop} {c : Int → Int → Bool} {g : Int → Int → Int} (h : ∀ i j, c i j = true → C i j) : OpQ K (rI C fun i j => .int (g i j)) (iiD c fun i j => .int (g i j)) := by
  intro H cs x y d e z Q lv hx hy hg k
  unfold iiD at hg
  split at hg
  · split at hg
    · rename_i hc
      cases hg
      exact ⟨_, _, dq_int hx, dq_int hy, h _ _ hc, k _ H (Same.refl H) (.int _)⟩
    · cases hg
  · cases hg
theorem ii_q0 {K : PySem.W.Frag} {g : Int → Int → Int} : OpQ K (rI0 fun i j => .int (g i j)) (iiD (fun _ _ => true) fun i j => .int (g i j)) := by
  intro H cs x y d e z Q lv hx hy hg k
  unfold iiD at hg
  split at hg
  · rw [if_pos rfl] at hg
    cases hg
    exact ⟨_, _, dq_int hx, dq_int hy, k _ H (Same.refl H) (.int _)⟩
  · cases hg
theorem ii_d0 {K : PySem.W.Frag} {g : Int → Int → Bool} : OpD K (rI0 fun i j => .bl (g i j)) (iiD (fun _ _ => true) fun i j => .bool (g i j)) := by
  intro H cs x y d e z Q lv hx hy hg k
  unfold iiD at hg
  split at hg
  · rw [if_pos rfl] at hg
    cases hg
    exact ⟨_, _, dr_int hx, dr_int hy, k _ H (Same.refl H) (.bl _)⟩
  · cases hg
def catD : PyData → PyData → Option PyData
  | .tuple xs, .tuple ys => if xs.length + ys.length ≤ sizeLine then some (.tuple (xs ++ ys)) else none
  | _, _ => none
theorem cat_q {K : PySem.W.Frag} : OpQ K (rCatA K) catD := by
  intro H cs x y d e z Q lv hx hy hg k
  unfold catD at hg
  split at hg
  · split at hg
    · rename_i hc
      cases hg
      cases hx with
      | tup h l r =>
        cases hy with
        | tup h2 l2 r2 =>
          rename_i ds es _ xs _ ys
          refine ⟨_, _, _, _, rfl, rfl, SqT.of h, SqT.of h2, by rw [r.length, r2.length]; exact hc, fun e => ?_, fun _ e => ?_, fun _ _ p hp => k _ _ (same_new hp) (new_tup lv hp (r.append r2))⟩
          · subst e
            cases r
            exact k _ H (Same.refl H) (.tup h2 l2 r2)
          · subst e
            cases r2
            rw [List.append_nil] at k
            exact k _ H (Same.refl H) (.tup h l r)
    · cases hg
  · cases hg
def catL : PyData → PyData → Option PyData
  | .list xs, .list ys => if xs.length + ys.length ≤ sizeLine then some (.list (xs ++ ys)) else none
  | _, _ => none
theorem catl_q {K : PySem.W.Frag} : OpQ K rCat catL := by
  intro H cs x y d e z Q lv hx hy hg k
  unfold catL at hg
  split at hg
  · split at hg
    · rename_i hc
      cases hg
      cases hx with
      | lst h l r =>
        cases hy with
        | lst h2 l2 r2 => exact ⟨_, _, _, _, rfl, rfl, h, h2, by rw [r.length, r2.length]; exact hc, fun p hp => k _ _ (same_new hp) (new_lst lv hp (r.append r2))⟩
    · cases hg
  · cases hg
def catS : PyData → PyData → Option PyData
  | .str x, .str y => if x.length + y.length ≤ sizeLine then some (.str (x ++ y)) else none
  | _, _ => none
theorem cats_q {K : PySem.W.Frag} : OpQ K (fun x y H Q => ∃ i j, x = .str i ∧ y = .str j ∧ i.length + j.length ≤ sizeLine ∧ Q (.str (i ++ j)) H) catS := by
  intro H cs x y d e z Q lv hx hy hg k
  unfold catS at hg
  split at hg
  · split at hg
    · rename_i hc
      cases hg
      exact ⟨_, _, dq_str hx.r (K := K), dq_str hy.r (K := K), hc, k _ H (Same.refl H) (.str _)⟩
    · cases hg
  · cases hg
/-- a + b -/
def addD (d e : PyData) : Option PyData := (((iiD (fun _ _ => true) fun i j => .int (i + j)) d e).or (catD d e)).or ((catL d e).or (catS d e))
theorem s_add {f1 f2 : XE} (ha : PE X a (tE X.K f1)) (hb : PE X b (tE X.K f2)) : PE X (.BinOp a .Add b pos) (tE X.K (bin2 addD f1 f2)) :=
  s_binq (g := addD) ((op_add.or op_catA).or (op_cat.or op_add_str)) ((ii_q0.or cat_q).or (catl_q.or cats_q)) ha hb
def subD : PyData → PyData → Option PyData := iiD (fun _ _ => true) fun i j => .int (i - j)
theorem s_sub {f1 f2 : XE} (ha : PE X a (tE X.K f1)) (hb : PE X b (tE X.K f2)) : PE X (.BinOp a .Sub b pos) (tE X.K (bin2 subD f1 f2)) := s_binq op_sub ii_q0 ha hb
/-- ints below 2 ^ 4096 -/
def mid (i : Int) : Bool := decide (i.natAbs < 2 ^ 4096)
theorem mid_mul (i j : Int) (h : (mid i && mid j) = true) : CMulW i j := by
  rw [Bool.and_eq_true] at h
  exact wide_mul (of_decide_eq_true h.1) (of_decide_eq_true h.2) (by decide) (by decide) (by decide)
def mulI : PyData → PyData → Option PyData := iiD (fun i j => mid i && mid j) fun i j => .int (i * j)
def fdivD : PyData → PyData → Option PyData := iiD (fun _ j => decide (0 < j) && mid j) fun i j => .int (i / j)
theorem s_fdiv {f1 f2 : XE} (ha : PE X a (tE X.K f1)) (hb : PE X b (tE X.K f2)) : PE X (.BinOp a .FloorDiv b pos) (tE X.K (bin2 fdivD f1 f2)) :=
  s_binq op_fdivW (ii_q fun i j h => by
    rw [Bool.and_eq_true] at h
    exact wide_div (of_decide_eq_true h.1) (of_decide_eq_true h.2) (by decide) (by decide)) ha hb
def modD : PyData → PyData → Option PyData := iiD (fun _ j => decide (0 < j)) fun i j => .int (i % j)
theorem s_mod {f1 f2 : XE} (ha : PE X a (tE X.K f1)) (hb : PE X b (tE X.K f2)) : PE X (.BinOp a .Mod b pos) (tE X.K (bin2 modD f1 f2)) := s_binq op_mod (ii_q fun i j h => of_decide_eq_true h) ha hb
def powD : PyData → PyData → Option PyData := iiD (fun i j => decide (0 ≤ j ∧ j ≤ 1000000 ∧ i.natAbs < 2 ^ 64)) fun i j => .int (i ^ j.toNat)
theorem s_pow {f1 f2 : XE} (ha : PE X a (tE X.K f1)) (hb : PE X b (tE X.K f2)) : PE X (.BinOp a .Pow b pos) (tE X.K (bin2 powD f1 f2)) := s_binq op_pow (ii_q fun i j h => (show CPow i j from (of_decide_eq_true h : 0 ≤ j ∧ j ≤ 1000000 ∧ i.natAbs < 2 ^ 64))) ha hb
/-- -a -/
def un1 (g : PyData → Option PyData) (f : XE) : XE := fun ρ => do let x ← f ρ; ofOpt (g x)
def negD : PyData → Option PyData
  | .int i => some (.int (-i))
  | _ => none
theorem s_neg {f : XE} (ha : PE X a (tE X.K f)) : PE X (.UnaryOp .USub a pos) (tE X.K (un1 negD f)) := (pe_un un_neg ha).imp fun σ H Q ⟨ρ, cs, st, d, st', sl, so, ev, k⟩ => by
  obtain ⟨x, s1, e1, e'⟩ := bind_some ev
  obtain ⟨e4, rfl⟩ := ofOpt_some e'
  refine ⟨ρ, cs, st, x, s1, sl, so, e1, fun v H1 c1 x1 so1 q1 => ?_⟩
  unfold negD at e4
  split at e4
  · cases e4
    exact ⟨_, dq_int q1, k _ H1 c1 x1 so1 (.int _)⟩
  · cases e4

/-! ### comparisons -/
def ltD : PyData → PyData → Option PyData := iiD (fun _ _ => true) fun i j => .bool (decide (i < j))
def leD : PyData → PyData → Option PyData := iiD (fun _ _ => true) fun i j => .bool (decide (i ≤ j))
def gtD : PyData → PyData → Option PyData := iiD (fun _ _ => true) fun i j => .bool (decide (j < i))
def geD : PyData → PyData → Option PyData := iiD (fun _ _ => true) fun i j => .bool (decide (j ≤ i))
theorem lt_d {K : PySem.W.Frag} : OpD K (rI0 fun i j => .bl (decide (i < j))) ltD := ii_d0
theorem le_d {K : PySem.W.Frag} : OpD K (rI0 fun i j => .bl (decide (i ≤ j))) leD := ii_d0
theorem gt_d {K : PySem.W.Frag} : OpD K (rI0 fun i j => .bl (decide (j < i))) gtD := ii_d0
theorem ge_d {K : PySem.W.Frag} : OpD K (rI0 fun i j => .bl (decide (j ≤ i))) geD := ii_d0
/-- what may be compared at any depth -/
def cmpOk (d : PyData) : Bool := nod d && SeqAt.shaped d
def eqD (d e : PyData) : Option PyData := if (cmpOk d && cmpOk e) = true then some (.bool (PyData.eqv d e)) else none
def neD (d e : PyData) : Option PyData := if (cmpOk d && cmpOk e) = true then some (.bool (!PyData.eqv d e)) else none
theorem eq_d {K : PySem.W.Frag} : OpD K (rEqD K) eqD := by
  intro H cs x y d e z Q lv hx hy hg k
  unfold eqD at hg
  split at hg
  · rename_i h
    cases hg
    simp only [cmpOk, Bool.and_eq_true] at h
    exact ⟨d, e, hx.dp h.1.1, hy.dp h.2.1, h.1.2, h.2.2, k _ H (Same.refl H) (.bl _)⟩
  · cases hg
theorem ne_d {K : PySem.W.Frag} : OpD K (rNeD K) neD := by
  intro H cs x y d e z Q lv hx hy hg k
  unfold neD at hg
  split at hg
  · rename_i h
    cases hg
    simp only [cmpOk, Bool.and_eq_true] at h
    exact ⟨d, e, hx.dp h.1.1, hy.dp h.2.1, h.1.2, h.2.2, k _ H (Same.refl H) (.bl _)⟩
  · cases hg
def isNone : PyData → Bool
  | .none => true
  | _ => false
theorem dr_none {K : PySem.W.Frag} {H : Hp} {cs : CS} {v : V} {d : PyData} (h : Dr K H cs v d) : decide (v = .non) = isNone d := by
  rcases h with h | ⟨a, xs, ds, rfl, rfl, _⟩
  · cases h <;> rfl
  · rfl
def isD (d e : PyData) : Option PyData := if isNone e = true then some (.bool (isNone d)) else none
def isntD (d e : PyData) : Option PyData := if isNone e = true then some (.bool (!isNone d)) else none
theorem is_d {K : PySem.W.Frag} : OpD K (fun x y H Q => y = .non ∧ Q (.bl (decide (x = .non))) H) isD := by
  intro H cs x y d e z Q lv hx hy hg k
  unfold isD at hg
  split at hg
  · rename_i h
    cases hg
    exact ⟨of_decide_eq_true ((dr_none hy).trans h), k _ H (Same.refl H) (by rw [dr_none hx]; exact .bl _)⟩
  · cases hg
theorem isnt_d {K : PySem.W.Frag} : OpD K (fun x y H Q => y = .non ∧ Q (.bl (!decide (x = .non))) H) isntD := by
  intro H cs x y d e z Q lv hx hy hg k
  unfold isntD at hg
  split at hg
  · rename_i h
    cases hg
    exact ⟨of_decide_eq_true ((dr_none hy).trans h), k _ H (Same.refl H) (by rw [dr_none hx]; exact .bl _)⟩
  · cases hg
/-- x in a list or a tuple, by data -/
def inV2 (neg : Bool) (K : PySem.W.Frag) : R2 := fun x y H Q => ∃ (d : PyData) (ds : List PyData) (t : Bool), Dp K H x d ∧ Dp K H y (if t = true then .tuple ds else .list ds) ∧ SeqAt.shaped d = true ∧ SeqAt.shaped (.list ds) = true ∧
  Q (.bl (if neg = true then !ds.any fun z => PyData.eqv z d else ds.any fun z => PyData.eqv z d)) H
theorem op_in2 (hu : X.A.units + 65 < cLine) : OpR X (compareOp .In) (inV2 false X.K) := by
  intro pins s σ H x y v u Q I rx ry h
  obtain ⟨d, ds, t, hd, he, sd, se, q⟩ := h
  obtain ⟨as, r1⟩ := Dp.reads I d x v hd rx
  cases t with
  | false =>
    obtain ⟨bs, r2⟩ := Dp.reads I (.list ds) y u he ry
    exact SeqAt.in_list_reads r2 r1 (SeqAt.canLay_of_shaped se) (SeqAt.canLay_of_shaped sd) (room_in_shaped sd hu) ⟨.bl _, H, I, rfl, q⟩
  | true =>
    obtain ⟨bs, r2⟩ := Dp.reads I (.tuple ds) y u he ry
    exact SeqAt.in_tuple_reads r2 r1 (SeqAt.canLay_of_shaped se) (SeqAt.canLay_of_shaped sd) (room_in_shaped sd hu) ⟨.bl _, H, I, rfl, q⟩
theorem op_notin2 (hu : X.A.units + 65 < cLine) : OpR X (compareOp .NotIn) (inV2 true X.K) := by
  intro pins s σ H x y v u Q I rx ry h
  obtain ⟨d, ds, t, hd, he, sd, se, q⟩ := h
  obtain ⟨as, r1⟩ := Dp.reads I d x v hd rx
  cases t with
  | false =>
    obtain ⟨bs, r2⟩ := Dp.reads I (.list ds) y u he ry
    exact SeqAt.notIn_list_reads r2 r1 (SeqAt.canLay_of_shaped se) (SeqAt.canLay_of_shaped sd) (room_in_shaped sd hu) ⟨.bl _, H, I, rfl, q⟩
  | true =>
    obtain ⟨bs, r2⟩ := Dp.reads I (.tuple ds) y u he ry
    exact SeqAt.notIn_tuple_reads r2 r1 (SeqAt.canLay_of_shaped se) (SeqAt.canLay_of_shaped sd) (room_in_shaped sd hu) ⟨.bl _, H, I, rfl, q⟩
def inD (neg : Bool) (d e : PyData) : Option PyData := (seqOf e).bind fun ds => if (cmpOk d && cmpOk (.list ds)) = true then some (.bool (if neg = true then !ds.any fun z => PyData.eqv z d else ds.any fun z => PyData.eqv z d)) else none
theorem in_d {K : PySem.W.Frag} {neg : Bool} : OpD K (inV2 neg K) (inD neg) := by
  intro H cs x y d e z Q lv hx hy hg k
  unfold inD at hg
  cases q : seqOf e with
  | none => rw [q] at hg; cases hg
  | some ds =>
    rw [q] at hg
    have hg' : (if (cmpOk d && cmpOk (.list ds)) = true then some (PyData.bool (if neg = true then !ds.any fun z => PyData.eqv z d else ds.any fun z => PyData.eqv z d)) else none) = some z := hg
    split at hg'
    · rename_i h
      cases hg'
      simp only [cmpOk, Bool.and_eq_true] at h
      have hn : nods ds = true := by simpa [nod] using h.2.1
      unfold seqOf at q
      split at q
      · cases q
        exact ⟨d, ds, false, hx.dp h.1.1, hy.dp (by simpa [nod] using hn), h.1.2, h.2.2, k _ H (Same.refl H) (.bl _)⟩
      · cases q
        exact ⟨d, ds, true, hx.dp h.1.1, hy.dp (by simpa [nod] using hn), h.1.2, h.2.2, k _ H (Same.refl H) (.bl _)⟩
      · cases q
    · cases hg'

/-! ### slices -/
def cutD (ds : List PyData) (lo hi : Option Int) : List PyData := (ds.drop (HT.sIx ds.length 0 lo)).take (HT.sIx ds.length ds.length hi - HT.sIx ds.length 0 lo)
theorem cut_all {H : Hp} {cs : CS} {xs : List V} {ds : List PyData} (r : DqAll H cs xs ds) (lo hi : Option Int) : DqAll H cs (cutV xs lo hi) (cutD ds lo hi) := by
  unfold cutV cutD
  rw [r.length]
  exact (r.drop _).take _
/-- a bound of a slice -/
abbrev XO := Rho → M (Option Int)
def noO : XO := fun _ => pure none
def someO (f : XE) : XO := fun ρ => do
  let x ← f ρ
  match x with
  | .int i => pure (some i)
  | _ => fail
def tO (K : PySem.W.Frag) (f : XO) : TO := fun σ H Q => ∃ ρ cs st d st', Slots K σ H ρ cs ∧ StoOk H cs st ∧ f ρ st = some (d, st') ∧ ∀ H' cs', Ext H cs H' cs' → StoOk H' cs' st' → Q d H'
theorem _root_.L2.PO.imp {e : Option Expr} {t t' : TO} (h : PO X e t) (k : ∀ σ H Q, t' σ H Q → t σ H Q) : PO X e t' := ⟨fun pins s σ H Q I hw => h.run pins s σ H Q I (k σ H Q hw)⟩
theorem s_noO : PO X none (tO X.K noO) := po_none.imp fun σ H Q ⟨ρ, cs, st, d, st', sl, so, ev, k⟩ => by
  obtain ⟨rfl, rfl⟩ := pure_some ev
  exact k H cs .refl so
theorem s_someO {f : XE} (h : PE X e (tE X.K f)) : PO X (some e) (tO X.K (someO f)) := (po_some h).imp fun σ H Q ⟨ρ, cs, st, d, st', sl, so, ev, k⟩ => by
  obtain ⟨x, s1, e1, e2⟩ := bind_some ev
  refine ⟨ρ, cs, st, x, s1, sl, so, e1, fun v H1 c1 x1 so1 q1 => ?_⟩
  split at e2
  · obtain ⟨rfl, rfl⟩ := pure_some e2
    exact ⟨_, dq_int q1, k H1 c1 x1 so1⟩
  · exact (fail_some e2).elim
def sliD (x : PyData) (lo hi : Option Int) : Option PyData := match x with
  | .list ds => some (.list (cutD ds lo hi))
  | .tuple ds => some (.tuple (cutD ds lo hi))
  | _ => none
theorem cutD_all {ds : List PyData} {lo hi : Option Int} (h0 : HT.sIx ds.length 0 lo = 0) (h1 : HT.sIx ds.length ds.length hi = ds.length) : cutD ds lo hi = ds := by
  unfold cutD
  rw [h0, h1]
  simp
def sliX (f : XE) (lo hi : XO) : XE := fun ρ => do
  let x ← f ρ
  let l ← lo ρ
  let h ← hi ρ
  ofOpt (sliD x l h)
theorem s_sli {lo hi : Option Expr} {p2 : Pos} {f : XE} {fl fh : XO} (ha : PE X e (tE X.K f)) (hl : PO X lo (tO X.K fl)) (hh : PO X hi (tO X.K fh)) : PE X (.Subscript e (.Slice lo hi none p2) pos) (tE X.K (sliX f fl fh)) :=
  (pe_slice (sl_list.or sl_tupA) ha hl hh).imp fun σ H Q ⟨ρ, cs, st, d, st', sl, so, ev, k⟩ => by
    obtain ⟨x, s1, e1, ev⟩ := bind_some ev
    obtain ⟨l, s2, e2, ev⟩ := bind_some ev
    obtain ⟨h, s3, e3, ev⟩ := bind_some ev
    obtain ⟨e4, rfl⟩ := ofOpt_some ev
    refine ⟨ρ, cs, st, x, s1, sl, so, e1, fun v H1 c1 x1 so1 q1 => ⟨ρ, c1, s1, l, s2, x1.slots so.lv sl, so1, e2, fun H2 c2 x2 so2 => ⟨ρ, c2, s2, h, s3, x2.slots so1.lv (x1.slots so.lv sl), so2, e3, fun H3 c3 x3 so3 => ?_⟩⟩⟩
    have q3 := x3.dq (x2.dq q1)
    have xx := (x1.trans x2).trans x3
    unfold sliD at e4
    split at e4
    · cases e4
      cases q3 with
      | lst hh l r => exact .inl ⟨_, _, rfl, SqL.of hh, fun p hp => k _ _ c3 (xx.trans (Ext.same (same_new hp))) (so3.same (same_new hp)) (new_lst so3.lv hp (cut_all r _ _))⟩
    · cases e4
      cases q3 with
      | tup hh l r =>
        refine .inr ⟨_, _, rfl, SqT.of hh, fun ⟨h0, h1⟩ => ?_, fun _ p hp => k _ _ c3 (xx.trans (Ext.same (same_new hp))) (so3.same (same_new hp)) (new_tup so3.lv hp (cut_all r _ _))⟩
        rw [r.length] at h0 h1
        rw [cutD_all h0 h1] at k
        exact k _ H3 c3 xx so3 (.tup hh l r)
    · cases e4
/-- a slice of a list that may change, or of the script -/
def csliX (i : Nat) (lo hi : XO) : XE := fun ρ => do
  let l ← lo ρ
  let h ← hi ρ
  let ds ← rdC i ρ
  pure (.list (cutD ds l h))
theorem s_csli {lo hi : Option Expr} {p2 : Pos} {i : Nat} {fl fh : XO} (ha : PE X e (tVar i)) (hl : PO X lo (tO X.K fl)) (hh : PO X hi (tO X.K fh)) : PE X (.Subscript e (.Slice lo hi none p2) pos) (tE X.K (csliX i fl fh)) :=
  (pe_slice sl_list ha hl hh).imp fun σ H Q ⟨ρ, cs, st, d, st', sl, so, ev, k⟩ => by
    obtain ⟨l, s2, e2, ev⟩ := bind_some ev
    obtain ⟨h, s3, e3, ev⟩ := bind_some ev
    obtain ⟨ds, s4, e4, ev⟩ := bind_some ev
    obtain ⟨rfl, rfl⟩ := pure_some ev
    obtain rfl := rdC_st e4
    have look : ∃ v, σ[i]? = some (some v) := by
      unfold rdC at e4
      split at e4
      · rename_i n e5
        obtain ⟨v, q, _⟩ := sl.at_ i _ e5
        exact ⟨v, q⟩
      · rename_i n e5
        obtain ⟨v, q, _⟩ := sl.at_ i _ e5
        exact ⟨v, q⟩
      · cases e4
    obtain ⟨v, hv⟩ := look
    refine ⟨v, hv, ρ, cs, st, l, s2, sl, so, e2, fun H2 c2 x2 so2 => ⟨ρ, c2, s2, h, s3, x2.slots so.lv sl, so2, e3, fun H3 c3 x3 so3 => ?_⟩⟩
    obtain ⟨_, a, xs, ea, hq, r⟩ := rdC_at (x3.slots so2.lv (x2.slots so.lv sl)) so3 e4
    rw [hv] at ea
    cases ea
    exact ⟨_, _, rfl, hq, fun p hp => k _ _ c3 ((x2.trans x3).trans (Ext.same (same_new hp))) (so3.same (same_new hp)) (new_lst so3.lv hp (cut_all r _ _))⟩

/-! ### built-in functions of one argument -/
def OpU (K : PySem.W.Frag) (r : List V → Hp → VK → Prop) (g : PyData → Option PyData) : Prop :=
  ∀ (H : Hp) (cs : CS) (v : V) (d z : PyData) (Q : VK), LvOk H cs → Dr K H cs v d → g d = some z → (∀ u H', Same H H' → Dq H' cs u z → Q u H') → r [v] H Q
theorem OpU.or {K : PySem.W.Frag} {r r' : List V → Hp → VK → Prop} {g g' : PyData → Option PyData} (h : OpU K r g) (h' : OpU K r' g') : OpU K (fun xs H Q => r xs H Q ∨ r' xs H Q) (fun d => (g d).or (g' d)) := by
  intro H cs v d z Q lv hx hg k
  have hg : (g d).or (g' d) = some z := hg
  cases q : g d with
  | some z' =>
    rw [q] at hg
    cases hg
    exact .inl (h H cs v d _ Q lv hx q k)
  | none =>
    rw [q] at hg
    exact .inr (h' H cs v d z Q lv hx hg k)
theorem one_u {r : List V → Hp → VK → Prop} {g : PyData → Option PyData} {f : XE} {σ : L2.St} {H : Hp} {Q : VK} {K : PySem.W.Frag} (hr : OpU K r g) (h : tE K (un1 g f) σ H Q) : tCB r (tCons (tR K f) tNil) σ H Q := by
  obtain ⟨ρ, cs, st, d, st', sl, so, ev, k⟩ := h
  obtain ⟨x, s1, e1, e'⟩ := bind_some ev
  obtain ⟨e4, rfl⟩ := ofOpt_some e'
  exact ⟨ρ, cs, st, x, s1, sl, so, e1, fun v H1 c1 x1 so1 q1 => hr H1 c1 v x d Q so1.lv q1 e4 fun u H2 s2 q2 => k u H2 c1 (x1.trans (Ext.same s2)) (so1.same s2) q2⟩
theorem s_fun1 {id : String} {x : Str} {p : Pos} {r : List V → Hp → VK → Prop} {g : PyData → Option PyData} {f : XE} (hc : CallR X (.builtin id) r) (hr : OpU X.K r g) (hg : Gl X x) (hm : X.mg x = none) (hv : bootBuiltins x = some (.builtin id)) (ha : PE X e (tR X.K f)) (hn : x ≠ "__name__") (hdb : (x == ("__debug__" : Str)) = false)
    (he : starEach [e] X.env = (false, eval e X.env) :: starEach [] X.env) : PE X (.Call (.Name x p) [e] [] pos) (tE X.K (un1 g f)) :=
  (pe_callB hc hg hm hv (pa_cons ha pa_nil he) hn hdb he rfl).imp fun σ H Q h => one_u hr h
theorem s_typ1 {T : String} {x : Str} {p : Pos} {r : List V → Hp → VK → Prop} {g : PyData → Option PyData} {f : XE} (hc : CallR X (.type T) r) (hr : OpU X.K r g) (hg : Gl X x) (hm : X.mg x = none) (hv : bootBuiltins x = some (.type T)) (ha : PE X e (tR X.K f)) (hn : x ≠ "__name__") (hdb : (x == ("__debug__" : Str)) = false)
    (he : starEach [e] X.env = (false, eval e X.env) :: starEach [] X.env) : PE X (.Call (.Name x p) [e] [] pos) (tE X.K (un1 g f)) :=
  (pe_callTy hc hg hm hv (pa_cons ha pa_nil he) hn hdb he rfl).imp fun σ H Q h => one_u hr h
def lenD : PyData → Option PyData
  | .list ds => some (.int ds.length)
  | .tuple ds => some (.int ds.length)
  | .str z => if z.length ≤ sizeLine then some (.int z.length) else none
  | _ => none
theorem len_u {K : PySem.W.Frag} : OpU K (fun xs H Q => ∃ x n, xs = [x] ∧ LenV K x H n ∧ Q (.int n) H) lenD := by
  intro H cs v d z Q lv hx hg k
  unfold lenD at hg
  split at hg
  · cases hg
    obtain ⟨a, xs, rfl, hq, r⟩ := dq_list hx
    exact ⟨_, _, rfl, .inl ⟨xs, hq, r.length.symm⟩, k _ H (Same.refl H) (.int _)⟩
  · cases hg
    obtain ⟨a, xs, rfl, hq, l, r⟩ := dq_tup hx
    exact ⟨_, _, rfl, .inr ⟨xs, SqT.of hq, r.length.symm⟩, k _ H (Same.refl H) (.int _)⟩
  · split at hg
    · rename_i zz hz
      cases hg
      exact ⟨.str zz, zz.length, by rw [dq_str hx], ⟨hz, rfl⟩, k _ H (Same.refl H) (.int _)⟩
    · cases hg
  · cases hg
def bools : List PyData → Option (List Bool)
  | [] => some []
  | .bool b :: ds => (bools ds).map (b :: ·)
  | _ => none
theorem bools_v {H : Hp} {cs : CS} : ∀ {xs : List V} {ds : List PyData} {bs : List Bool}, DqAll H cs xs ds → bools ds = some bs → xs = bs.map V.bl
  | _, _, bs, .nil, h => by
    cases h
    rfl
  | _, _, bs, .cons (ds := ds) q r, h => by
    cases q with
    | bl b =>
      have h' : (bools ds).map (b :: ·) = some bs := h
      cases e : bools ds with
      | none => rw [e] at h'; cases h'
      | some cs' =>
        rw [e] at h'
        cases h'
        rw [bools_v r e]; rfl
    | _ => cases h
def allD : PyData → Option PyData
  | .list ds => (bools ds).map fun bs => .bool (bs.all id)
  | _ => none
def anyD : PyData → Option PyData
  | .list ds => (bools ds).map fun bs => .bool (bs.any id)
  | _ => none
theorem all_u {K : PySem.W.Frag} : OpU K (rAll K) allD := by
  intro H cs v d z Q lv hx hg k
  unfold allD at hg
  split at hg
  · rename_i ds
    obtain ⟨a, xs, rfl, hq, r⟩ := dq_list hx
    cases e : bools ds with
    | none => rw [e] at hg; cases hg
    | some bs =>
      rw [e] at hg
      cases hg
      exact ⟨a, bs, rfl, by rw [← bools_v r e]; exact hq, k _ H (Same.refl H) (.bl _)⟩
  · cases hg
theorem any_u {K : PySem.W.Frag} : OpU K (rAny K) anyD := by
  intro H cs v d z Q lv hx hg k
  unfold anyD at hg
  split at hg
  · rename_i ds
    obtain ⟨a, xs, rfl, hq, r⟩ := dq_list hx
    cases e : bools ds with
    | none => rw [e] at hg; cases hg
    | some bs =>
      rw [e] at hg
      cases hg
      exact ⟨a, bs, rfl, by rw [← bools_v r e]; exact hq, k _ H (Same.refl H) (.bl _)⟩
  · cases hg
def tupD : PyData → Option PyData
  | .list ds => some (.tuple ds)
  | .tuple ds => some (.tuple ds)
  | _ => none
theorem tup_u {K : PySem.W.Frag} : OpU K (fun xs H Q => ∃ p ys, xs = [.ref p] ∧ ((SqL K H p ys ∧ ∀ l, H l = none → Q (.ref l) (upd H l (.tup ys))) ∨ (SqT K H p ys ∧ Q (.ref p) H))) tupD := by
  intro H cs v d z Q lv hx hg k
  unfold tupD at hg
  split at hg
  · cases hg
    obtain ⟨a, xs, rfl, hq, r⟩ := dq_list hx
    exact ⟨a, xs, rfl, .inl ⟨hq, fun l hl => k _ _ (same_new hl) (new_tup lv hl r)⟩⟩
  · cases hg
    obtain ⟨a, xs, rfl, hq, l, r⟩ := dq_tup hx
    exact ⟨a, xs, rfl, .inr ⟨SqT.of hq, k _ H (Same.refl H) (.tup hq l r)⟩⟩
  · cases hg
def lisD : PyData → Option PyData
  | .list ds => some (.list ds)
  | .tuple ds => some (.list ds)
  | _ => none
theorem lis_u {K : PySem.W.Frag} : OpU K (fun xs H Q => ∃ p ys, xs = [.ref p] ∧ (SqL K H p ys ∨ SqT K H p ys) ∧ ∀ l, H l = none → Q (.ref l) (upd H l (.lst ys))) lisD := by
  intro H cs v d z Q lv hx hg k
  unfold lisD at hg
  split at hg
  · cases hg
    obtain ⟨a, xs, rfl, hq, r⟩ := dq_list hx
    exact ⟨a, xs, rfl, .inl hq, fun l hl => k _ _ (same_new hl) (new_lst lv hl r)⟩
  · cases hg
    obtain ⟨a, xs, rfl, hq, l, r⟩ := dq_tup hx
    exact ⟨a, xs, rfl, .inr (SqT.of hq), fun l hl => k _ _ (same_new hl) (new_lst lv hl r)⟩
  · cases hg
def intD : PyData → Option PyData
  | .int i => some (.int i)
  | .bool b => some (.int (if b then 1 else 0))
  | _ => none
theorem dr_bool {K : PySem.W.Frag} {H : Hp} {cs : CS} {v : V} {b : Bool} (h : Dr K H cs v (.bool b)) : v = .bl b := by
  rcases h with h | ⟨a, xs, ds, rfl, e, _⟩
  · exact dq_bool h
  · cases e
theorem int_u {K : PySem.W.Frag} : OpU K (fun xs H Q => (∃ i, xs = [.int i] ∧ Q (.int i) H) ∨ ∃ k, xs = [.bl k] ∧ Q (.int (if k then 1 else 0)) H) intD := by
  intro H cs v d z Q lv hx hg k
  unfold intD at hg
  split at hg
  · cases hg
    exact .inl ⟨_, by rw [dr_int hx], k _ H (Same.refl H) (.int _)⟩
  · cases hg
    exact .inr ⟨_, by rw [dr_bool hx], k _ H (Same.refl H) (.int _)⟩
  · cases hg
def absD : PyData → Option PyData
  | .int i => some (.int (if i < 0 then -i else i))
  | _ => none
theorem abs_u {K : PySem.W.Frag} : OpU K (fun xs H Q => ∃ i, xs = [.int i] ∧ Q (.int (if i < 0 then -i else i)) H) absD := by
  intro H cs v d z Q lv hx hg k
  unfold absD at hg
  split at hg
  · cases hg
    exact ⟨_, by rw [dr_int hx], k _ H (Same.refl H) (.int _)⟩
  · cases hg
end
end EF

set_option Elab.async false
set_option linter.all false
set_option maxRecDepth 100000
/-! EF9: rules that the hand layer has not: enumerate of a tuple, zip of three tuples, != of types, repr of data, tuple * 1. -/
namespace EF
open PySem PySem.Spec PyProof.Rows L2

/-! ### enumerate(tuple) -/
section
variable {prog : Program} {w : World} {A : Around} {E : Value → Shared → Prop} {s : Shared}
set_option maxHeartbeats 1000000 in
theorem meets_enum1 {v : Value} {o : Obj} {H : Heap → Prop} (B : Begins v o H) :
    Meets (Builtin.«enumerate.__new__» ⟨[.type "enumerate", v], []⟩) (fun _ R s => H s.heap ∧
      R (.ok (.ret (.ref (s.heap.push o).objs.size))) { s with heap := (s.heap.push o).push { cls := .type "enumerate", data := .fields #[.none, .bool false, .ref s.heap.objs.size, rawInt 0, .none, .none] } }) :=
  .of_wp fun prog w A R s hh => by
    obtain ⟨hp, g, d, tk, os⟩ := s
    obtain ⟨k1, k2⟩ := hh
    have subE := sub_enumerate
    have itr : ∀ {A' : Around} {E : Value → Shared → Prop} {Q : Value → Shared → Prop}, Q (.ref hp.objs.size) ⟨hp.push o, g, d, tk, os⟩ → wpAny (model prog w) A' (pyIter v) Q E ⟨hp, g, d, tk, os⟩ :=
      fun z => B.iter prog w _ _ ⟨hp, g, d, tk, os⟩ _ k1 z
    wp_walk using itr
    refine wpAny_stack_any fun fr => wpAny_pure ?_
    split
    · rename_i cl _ _ _ _ _
      cases (cl == Value.type "enumerate")
      all_goals
        wp_walk using itr
        exact ⟨_, rfl, k2⟩
    · wp_walk using itr
      exact ⟨_, rfl, k2⟩
theorem call_enum1 {v : Value} {o : Obj} {H : Heap → Prop} {Q : Value → Shared → Prop} (B : Begins v o H) (h1 : H s.heap)
    (h : ∀ h', IsEnum h' (s.heap.objs.size + 1) s.heap.objs.size 0 .none → h'.get? s.heap.objs.size = some o → (∀ b o, s.heap.get? b = some o → h'.get? b = some o) → Q (.ref (s.heap.objs.size + 1)) { s with heap := h' }) :
    wpAny (model prog w) A (call (.type "enumerate") [v]) Q E s := by
  refine callType_new F.called_enumerate (by decide) (F.typeCall_enumerate_1 _) (F.newCall_enumerate_1 _) (fun obj => F.args_object_init_2 obj _) F.entry_enumerate_new (meets_enum1 B) ⟨h1, ?_⟩
  have sz : (s.heap.push o).objs.size = s.heap.objs.size + 1 := Heap.size_push ..
  show _ ∧ _
  rw [sz]
  have ie := Heap.get?_push_size (s.heap.push o) (o := { cls := .type "enumerate", data := .fields #[.none, .bool false, .ref s.heap.objs.size, rawInt 0, .none, .none] }) rfl
  rw [sz] at ie
  exact ⟨⟨_, ie, rfl⟩, h _ ie (Heap.get?_push_of_some _ (Heap.get?_push_size _ B.free)) fun b u q => Heap.get?_push_of_some _ (Heap.get?_push_of_some _ q)⟩
end
/-- the tuple at a, each item in a new pair -/
def EnT (K : PySem.W.Frag) (a : Addr) : It :=
  ⟨fun i H => ∃ (xs : List V) (x : V), SqT K H a xs ∧ xs[i]? = some x, fun i H v H' => ∃ T x, v = .ref T ∧ H T = none ∧ H' = upd H T (.tup [.int (i : Nat), x]) ∧ ∀ xs, SqT K H a xs → xs[i]? = some x, fun i H => ∃ xs : List V, SqT K H a xs ∧ xs.length = i⟩
theorem turn_enT {P : Program} {w : World} {K : PySem.W.Frag} {elts : List Expr} {kk : Nat} {tpos : Pos} (a e it : Addr) :
    Turn P w K (.Tuple elts kk tpos) (EnT K a) [e, it] e (fun i h => (∃ old, IsEnum h e it (i : Int) old) ∧ h.IsTupleIter it a i ∧ e ≠ it ∧ e ≠ a ∧ it ≠ a) where
  mem := List.mem_cons_self
  obj := fun i h st b hb => by
    obtain ⟨⟨old, he⟩, ⟨o, ho, hc, hd⟩, _⟩ := st
    rcases List.mem_cons.mp hb with rfl | hb
    · exact ⟨_, he, fun v q => by cases q⟩
    · rw [List.mem_singleton] at hb
      subst hb
      exact ⟨o, ho, fun v q => by rw [hd] at q; cases q⟩
  keep := fun i h h' ⟨⟨old, he⟩, hi, n1, n2, n3⟩ k => ⟨⟨old, k e List.mem_cons_self _ he⟩, hi.at fun o q => k it (by simp) o q, n1, n2, n3⟩
  item := by
    intro X hP hw hK hc i pins s σ H E I hf st hg
    subst hP hw hK
    obtain ⟨⟨old, he⟩, hit, n1, n2, n3⟩ := st
    obtain ⟨xs, x, hq, hx⟩ := hg
    obtain ⟨its, rv, p, hz⟩ := I.tuple hq
    obtain ⟨u, hu, ru⟩ := rv.get hx
    have hel : e < s.heap.objs.size := Heap.lt_size he
    have hil : it < s.heap.objs.size := by obtain ⟨_, q, _⟩ := hit; exact Heap.lt_size q
    have hlt : i < its.toArray.size := by
      have := (List.getElem?_eq_some_iff.mp hu).1
      simpa using this
    refine wpAny_pyNext_enum_itemD (Draws.tuple (A := X.A.in1) (I.ok.hd hc) it a (Ne.symm n3) its.toArray) he ⟨hit, p⟩ hlt n1 (by simp [n1, n2]) fun y h' tk hy ho hst hT hsz hk => ?_
    have ey : y = u := by
      have q1 : its.toArray[i]? = some u := by simpa using hu
      rw [q1] at hy
      exact (Option.some.inj hy).symm
    subst ey
    refine ⟨_, rfl, wpAny_letOwnedTupleGo_enum (s := { s with heap := h', toks := tk + 1 }) ho fun h'' he' sb => ?_⟩
    have hT2 : h''.get? s.heap.objs.size = some { cls := .type "tuple", data := .seq #[.int i tk, y] } := (sb.2 _ (Nat.ne_of_gt hel)).trans hT
    have new : ObjOk X.prog X.w (upd H s.heap.objs.size (.tup [.int (i : Nat), x])) h'' s.heap.objs.size (.tup [.int (i : Nat), x]) :=
      ⟨by show 2 ≤ sizeLine; decide, [.int i tk, y], .cons ⟨_, rfl⟩ (.cons ru .nil), ⟨_, hT2, rfl, _, rfl⟩⟩
    have I1 := I.turnedNew (t' := tk + 1) (h' := h'') (ch := [e, it]) (fun b ob hb q => (sb.2 b (fun z => hb (by simp [z]))).trans (hk b ob (fun z => hb (by simp [z])) (fun z => hb (by simp [z])) q)) hf (Nat.le_refl _) new
    refine ⟨.ref s.heap.objs.size, _, I1, rfl, ⟨_, x, rfl, I.hok.fresh (Nat.le_refl _), rfl, fun ys hy => by rw [I.tuple_inj hy hq]; exact hx⟩, ⟨⟨y, ?_⟩, hst.1.at fun o q => (sb.2 it (Ne.symm n1)).trans q, n1, n2, n3⟩, fun b hb => ?_⟩
    · have e1 : ((i + 1 : Nat) : Int) = (i : Int) + 1 := by omega
      rw [e1]; exact he'
    · have hb' : b < s.heap.objs.size := by
        rcases List.mem_cons.mp hb with rfl | hb
        · exact hel
        · rw [List.mem_singleton] at hb
          subst hb
          exact hil
      rw [upd_ne (Nat.ne_of_lt hb')]
      exact (hf b hb).1
  done := by
    intro X hP hw hK hc i pins s σ H E I hf st hg
    subst hP hw hK
    obtain ⟨⟨old, he⟩, hit, n1, n2, n3⟩ := st
    obtain ⟨xs, hq, hx⟩ := hg
    obtain ⟨its, rv, p, hz⟩ := I.tuple hq
    obtain ⟨f0, f1, f2, f3, f4, f5⟩ := hf it (by simp)
    have hl := rv.length
    have ei : its.toArray.size = i := by simp; omega
    exact wpAny_pyNext_enum_endD (Draws.tuple (A := X.A.in1) (I.ok.hd hc) it a (Ne.symm n3) its.toArray) he ⟨by rw [ei]; exact hit, p⟩ fun h' eb => ⟨rfl, I.turned (t' := s.toks) (fun b o hb q => eb b o hb q) f0 f1 f3 f4 f5⟩
  self := fun A i s Q E st h => let ⟨⟨_, he⟩, _⟩ := st; wpAny_pyIter_enum he h
def iEnA (K : PySem.W.Frag) (ta : TA) : TI := fun σ H R => ta σ H fun vs H1 => ∃ a xs, vs = [.ref a] ∧ ((SqL K H1 a xs ∧ R (Ite K a) H1) ∨ (SqT K H1 a xs ∧ R (EnT K a) H1))
section
variable {X : Cx} {pos : Pos}
theorem pi_enA {e : Expr} {ta : TA} {p tpos : Pos} {elts : List Expr} {kk : Nat} (hg : Gl X "enumerate") (hm : X.mg "enumerate" = none) (ha : PA X [e] ta) (hs : starEach [e] X.env = [(false, eval e X.env)]) :
    PI X (.Tuple elts kk tpos) (.Call (.Name "enumerate" p) [e] [] pos) (iEnA X.K ta) := by
  refine ⟨fun pins s σ H R I h => Call_ (ld_blt I hg hm boot_enumerate (PyProof.Rows.callWith_type1 (thn (ha.run pos pins s σ H _ I h) ?_) hs rfl))⟩
  rintro us s1 ⟨vs, H1, J, r1, a, xs, rfl, q1⟩
  obtain ⟨u, rfl, ru⟩ := vals1 r1
  cases ru
  have place : ∀ b ∈ [s1.heap.objs.size + 1, s1.heap.objs.size], FpOk X pins H1 b := fun b hb => by
    have hle : s1.heap.objs.size ≤ b := by
      rcases List.mem_cons.mp hb with rfl | hb
      · exact Nat.le_succ _
      · rw [List.mem_singleton] at hb
        exact Nat.le_of_eq hb.symm
    exact J.fpOk hle (J.hok.fresh hle)
  rcases q1 with ⟨hq, q⟩ | ⟨hq, q⟩
  · obtain ⟨its, rv, p', hz⟩ := J.list hq
    refine call_enumerate_list p'.isList fun h' he hit hsz hk => wpAny_pyIter_enum he ?_
    exact ⟨s1.heap.objs.size + 1, _, _, _, H1, rfl, J.kept (t' := s1.toks) hk, turn_enum a (s1.heap.objs.size + 1) s1.heap.objs.size, ⟨⟨.none, he⟩, hit, Nat.succ_ne_self _⟩, place, q⟩
  · obtain ⟨its, rv, p', hz⟩ := J.tuple hq
    have la : a < s1.heap.objs.size := p'.lt
    refine call_enum1 (begins_tuple a its.toArray) p' fun h' he hit hk => wpAny_pyIter_enum he ?_
    exact ⟨s1.heap.objs.size + 1, _, _, _, H1, rfl, J.kept (t' := s1.toks) hk, turn_enT a (s1.heap.objs.size + 1) s1.heap.objs.size,
      ⟨⟨.none, he⟩, ⟨_, hit, rfl, rfl⟩, Nat.succ_ne_self _, Nat.ne_of_gt (Nat.lt_succ_of_lt la), Nat.ne_of_gt la⟩, place, q⟩
def enumD (ds : List PyData) : List PyData := ds.mapIdx fun i d => .tuple [.int (i : Nat), d]
theorem enumD_len (ds : List PyData) : (enumD ds).length = ds.length := by unfold enumD; rw [List.length_mapIdx]
theorem enumD_at {ds : List PyData} {i : Nat} {d : PyData} (h : ds[i]? = some d) : (enumD ds)[i]? = some (.tuple [.int (i : Nat), d]) := by
  unfold enumD
  rw [List.getElem?_mapIdx, h]; rfl
theorem wk_enL {K : PySem.W.Frag} {a : Addr} {ds : List PyData} : Wk K (Ite K a) (enumD ds) (fun _ => True) (fun H cs => ∃ xs, H a = some (.lst xs) ∧ ¬ Live cs a ∧ DqAll H cs xs ds) where
  stay := fun H cs H' cs' ⟨xs, h, l, r⟩ f => ⟨xs, f.keep _ _ h l, f.nlive _ _ h l, f.dqs r⟩
  go := fun i H cs st hi ⟨xs, h, l, r⟩ _ _ => by
    rw [enumD_len] at hi
    obtain ⟨v, e, _⟩ := r.get (List.getElem?_eq_getElem hi)
    exact ⟨xs, v, SqL.of h, e⟩
  stop := fun H cs st ⟨xs, h, l, r⟩ _ _ => ⟨xs, SqL.of h, by rw [enumD_len]; exact Nat.le_of_eq r.length⟩
  yld := fun i H cs st x H' hi ⟨xs, h, l, r⟩ so _ ⟨T, x0, e, hT, e2, q1⟩ => by
    subst e e2
    rw [enumD_len] at hi
    have g1 := List.getElem?_eq_getElem hi
    obtain ⟨v, e, d1⟩ := r.get g1
    rw [q1 xs (SqL.of h)] at e
    cases e
    exact ⟨same_new hT, _, enumD_at g1, new_pair so.lv hT (.int _) d1⟩
theorem wk_enT {K : PySem.W.Frag} {a : Addr} {ds : List PyData} : Wk K (EnT K a) (enumD ds) (fun _ => True) (fun H cs => ∃ xs, H a = some (.tup xs) ∧ ¬ Live cs a ∧ DqAll H cs xs ds) where
  stay := fun H cs H' cs' ⟨xs, h, l, r⟩ f => ⟨xs, f.keep _ _ h l, f.nlive _ _ h l, f.dqs r⟩
  go := fun i H cs st hi ⟨xs, h, l, r⟩ _ _ => by
    rw [enumD_len] at hi
    obtain ⟨v, e, _⟩ := r.get (List.getElem?_eq_getElem hi)
    exact ⟨xs, v, SqT.of h, e⟩
  stop := fun H cs st ⟨xs, h, l, r⟩ _ _ => ⟨xs, SqT.of h, by rw [enumD_len]; exact r.length⟩
  yld := fun i H cs st x H' hi ⟨xs, h, l, r⟩ so _ ⟨T, x0, e, hT, e2, q1⟩ => by
    subst e e2
    rw [enumD_len] at hi
    have g1 := List.getElem?_eq_getElem hi
    obtain ⟨v, e, d1⟩ := r.get g1
    rw [q1 xs (SqT.of h)] at e
    cases e
    exact ⟨same_new hT, _, enumD_at g1, new_pair so.lv hT (.int _) d1⟩
def enumI (f : Rho → M (List PyData)) : XI := fun ρ => do
  let xs ← f ρ
  match xs with
  | [x] => do let ds ← ofOpt (seqOf x); pure (enumD ds, fun _ => True)
  | _ => fail
theorem s_enum {e : Expr} {f : Rho → M (List PyData)} {p tpos : Pos} {elts : List Expr} {kk : Nat} (hg : Gl X "enumerate") (hm : X.mg "enumerate" = none) (ha : PA X [e] (tA X.K f)) (hs : starEach [e] X.env = [(false, eval e X.env)]) :
    PI X (.Tuple elts kk tpos) (.Call (.Name "enumerate" p) [e] [] pos) (tI X.K (enumI f)) := (pi_enA hg hm ha hs).imp fun σ H R ⟨ρ, cs, st, ds, gd, st', sl, so, ev, k⟩ => by
  obtain ⟨xs, s1, e1, e2⟩ := bind_some ev
  refine ⟨ρ, cs, st, xs, s1, sl, so, e1, fun vs H1 c1 x1 so1 q1 => ?_⟩
  split at e2
  · obtain ⟨ds', s2, e3, e4⟩ := bind_some e2
    obtain ⟨e5, rfl⟩ := ofOpt_some e3
    obtain ⟨h3, rfl⟩ := pure_some e4
    cases h3
    cases q1 with
    | cons qa qb =>
      cases qb
      unfold seqOf at e5
      split at e5
      · cases e5
        cases qa with
        | lst h l r => exact ⟨_, _, rfl, .inl ⟨SqL.of h, k _ H1 c1 _ x1 so1 wk_enL ⟨_, h, l, r⟩⟩⟩
      · cases e5
        cases qa with
        | tup h l r => exact ⟨_, _, rfl, .inr ⟨SqT.of h, k _ H1 c1 _ x1 so1 wk_enT ⟨_, h, l, r⟩⟩⟩
      · cases e5
  · exact (fail_some e2).elim
end
end EF

set_option Elab.async false
set_option linter.all false
set_option maxRecDepth 100000
/-! EF10: types, isinstance, repr, tuple * int, zip of three tuples. -/
namespace EF
open PySem PySem.Spec PyProof.Rows L2

/-! ### != of types -/
section
variable {prog : Program} {w : World} {A : Around} {E : Value → Shared → Prop} {s : Shared} {Q : Value → Shared → Prop}
theorem slot_ty_ne : Slot "type" (cmpInfo .NotEq).2.1 "object.__ne__" :=
  .of (owner := "object") (n := "__ne__") (by rw [typeLookup_type, builtinLookup_eq_fast]; kernel_rfl) (by decide +kernel) (by decide +kernel) (by decide +kernel)
    (by first | exact .inl (by decide +kernel) | exact .inr (by decide +kernel)) (by rw [isSubtype_type]; kernel_rfl)
theorem slot_ty_ner : Slot "type" (cmpInfo .NotEq).2.2 "object.__ne__" :=
  .of (owner := "object") (n := "__ne__") (by rw [typeLookup_type, builtinLookup_eq_fast]; kernel_rfl) (by decide +kernel) (by decide +kernel) (by decide +kernel)
    (by first | exact .inl (by decide +kernel) | exact .inr (by decide +kernel)) (by rw [isSubtype_type]; kernel_rfl)
theorem slot_ty_eq' : Slot "type" "__eq__" "object.__eq__" :=
  .of (owner := "object") (n := "__eq__") (by rw [typeLookup_type, builtinLookup_eq_fast]; kernel_rfl) (by decide +kernel) (by decide +kernel) (by decide +kernel)
    (by first | exact .inl (by decide +kernel) | exact .inr (by decide +kernel)) (by rw [isSubtype_type]; kernel_rfl)
/-- object.__ne__ of two types -/
theorem ne_slot {X Y : String} (hX : ∀ s' : Shared, s'.TypeIs (.type X) "type") (k : Bool) (hk : (Value.type X == Value.type Y) = k) {nm : Str} (S : Slot "type" nm "object.__ne__")
    (h : Q (if k = true then .bool false else .notImplemented) s) : wpAny (model prog w) A (call (.builtin "object.__ne__") [.type X, .type Y]) Q E s := by
  refine wpAny_call_entry S (hX s) F.entry_object_ne ?_ (F.args_object_ne_2 _ _)
  show wpAny _ _ (do
    cRoomFor "comparison" [.type X, .type Y]
    match ← callSpecialIfBound? (.type X) "__eq__" [.type Y] with
    | some .notImplemented | none => ret .notImplemented
    | some r => ret (.bool (!(← truthy r)))) _ _ _
  refine wpAny_bind (wpAny_cRoomFor_or (.inl rfl) ?_)
  refine wpAny_bind (wpAny_callSpecialIfBound?_slot (hX s) slot_ty_eq' ?_)
  cases k with
  | true =>
    refine call_gives slot_ty_eq' (hX s) F.entry_object_eq (F.args_object_eq_2 _ _) (TypeEq.object_eq_same rfl hk) ?_
    exact wpAny_bind (wpAny_truthy_bool (wpAny_pure ⟨_, rfl, h⟩))
  | false =>
    refine call_gives slot_ty_eq' (hX s) F.entry_object_eq (F.args_object_eq_2 _ _) (TypeEq.object_eq_other rfl hk) ?_
    exact wpAny_pure ⟨_, rfl, h⟩
theorem ne_types {X Y : String} (hX : ∀ s' : Shared, s'.TypeIs (.type X) "type") (hY : ∀ s' : Shared, s'.TypeIs (.type Y) "type") (k : Bool) (hk : (Value.type X == Value.type Y) = k)
    (h : Q (.bool (!k)) s) : wpAny (model prog w) A (compareOp .NotEq (.type X) (.type Y)) Q E s := by
  show wpAny _ A (richCompare .NotEq _ _) Q E s
  cases k with
  | true => exact wpAny_richCompare_same (T := "type") (hX s) (hY s) slot_ty_ne (ne_slot hX true hk slot_ty_ne ⟨by decide, h⟩)
  | false =>
    have hk' : (Value.type Y == Value.type X) = false := by
      rw [Bool.eq_false_iff] at hk ⊢
      intro q
      exact hk (by rw [beq_iff_eq] at q ⊢; exact q.symm)
    have e1 : cmpInfo CmpOp.NotEq = ((cmpInfo CmpOp.NotEq).1, (cmpInfo CmpOp.NotEq).2.1, (cmpInfo CmpOp.NotEq).2.2) := rfl
    simp only [richCompare, (hX s).oneThing_none]
    try with_reducible refine wpAny_holding ?_
    rw [e1]
    refine wpAny_bind (wpAny_cRoomFor_or (.inl rfl) ?_)
    refine wpAny_bind (wpAny_typeOf (hX s) (wpAny_bind (wpAny_typeOf (hY s) ?_)))
    simp only [bne_self_eq_false, Bool.false_eq_true, if_false, pure_bind, Bool.not_false, if_true]
    refine wpAny_bind (m := tryCompare (Value.type X) _ _) (wpAny_tryCompare_declines (hX s) slot_ty_ne (ne_slot hX false hk slot_ty_ne ⟨rfl, ?_⟩))
    refine wpAny_bind (m := tryCompare (Value.type Y) _ _) (wpAny_tryCompare_declines (hY s) slot_ty_ner (ne_slot hY false hk' slot_ty_ner ⟨rfl, ?_⟩))
    refine wpAny_bind (wpAny_rule (wpAny_bind (wpAny_of_eq (show isSame (Value.type X) (Value.type Y) = pure false by rw [isSame_plain rfl, hk]) (wpAny_pure h))))
end

/-! ### type(e) == T, type(e) != T -/
def tyName : PyData → String
  | .none => "NoneType"
  | .bool _ => "bool"
  | .int _ => "int"
  | .str _ => "str"
  | .list _ => "list"
  | .tuple _ => "tuple"
  | .dict _ => "dict"
def tyNames : List String := ["NoneType", "bool", "int", "str", "list", "tuple", "dict"]
theorem tyName_mem (d : PyData) : tyName d ∈ tyNames := by cases d <;> simp [tyName, tyNames]
theorem ty_meta {T : String} (h : T ∈ tyNames) : ∀ s' : Shared, s'.TypeIs (.type T) "type" := by
  simp only [tyNames, List.mem_cons, List.not_mem_nil, or_false] at h
  rcases h with rfl | rfl | rfl | rfl | rfl | rfl | rfl
  · exact TypeEq.meta_NoneType
  · exact TypeEq.meta_bool
  · exact TypeEq.meta_int
  · exact TypeEq.meta_str
  · exact TypeEq.meta_list
  · exact TypeEq.meta_tuple
  · exact TypeEq.meta_dict
theorem ty_beq (a b : String) : (Value.type a == Value.type b) = decide (a = b) := by
  by_cases h : a = b
  · subst h; simp
  · rw [decide_eq_false h]
    exact beq_eq_false_iff_ne.mpr fun q => h (by cases q; rfl)
def rTyC (neg : Bool) : R2 := fun x y H Q => ∃ a b, x = .ty a ∧ y = .ty b ∧ a ∈ tyNames ∧ b ∈ tyNames ∧ Q (.bl (if neg = true then !decide (a = b) else decide (a = b))) H
section
variable {X : Cx} {e a b : Expr} {pos : Pos}
theorem op_tyNe : OpR X (compareOp .NotEq) (rTyC true) := by
  rintro pins s σ H x y v u Q I rx ry ⟨a, b, rfl, rfl, ha, hb, q⟩
  cases rx
  cases ry
  exact ne_types (ty_meta ha) (ty_meta hb) _ (ty_beq a b) ⟨.bl _, H, I, rfl, q⟩
theorem op_tyEq : OpR X (compareOp .Eq) (rTyC false) := by
  rintro pins s σ H x y v u Q I rx ry ⟨a, b, rfl, rfl, ha, hb, q⟩
  cases rx
  cases ry
  by_cases h : a = b
  · subst h
    exact TypeEq.eq_type_same (ty_meta ha) ⟨.bl true, H, I, rfl, by rw [decide_eq_true rfl] at q; exact q⟩
  · exact TypeEq.eq_type_other (ty_meta ha) (ty_meta hb) (by rw [ty_beq, decide_eq_false h]) ⟨.bl false, H, I, rfl, by rw [decide_eq_false h] at q; exact q⟩
theorem dr_ty {K : PySem.W.Frag} {H : Hp} {cs : CS} {v : V} {d : PyData} (h : Dr K H cs v d) : TyB K H v (tyName d) := by
  rcases h with h | ⟨a, xs, ds, rfl, rfl, q, _⟩
  · cases h with
    | non => exact .non
    | bl b => exact .bl b
    | int i => exact .int i
    | str x => exact .str x
    | lst h l r => exact .lst (SqL.of h)
    | tup h l r => exact .tup (SqT.of h)
    | dic h l r => exact .dK h
  · exact .lst q
def tyX (neg : Bool) (T : String) (f : XE) : XE := fun ρ => do let x ← f ρ; pure (.bool (if neg = true then !decide (tyName x = T) else decide (tyName x = T)))
theorem tyc_ok {neg : Bool} {T : String} {f : XE} {σ : L2.St} {H : Hp} {Q : VK} {K : PySem.W.Frag} (hT : T ∈ tyNames) (h : tE K (tyX neg T f) σ H Q) : tOp (rTyC neg) (tCB (rTyp K) (tCons (tR K f) tNil)) (tC (.ty T)) σ H Q := by
  obtain ⟨ρ, cs, st, d, st', sl, so, ev, k⟩ := h
  obtain ⟨x, s1, e1, e2⟩ := bind_some ev
  obtain ⟨rfl, rfl⟩ := pure_some e2
  exact ⟨ρ, cs, st, x, s1, sl, so, e1, fun v H1 c1 x1 so1 q1 => ⟨v, tyName x, rfl, dr_ty q1, tyName x, T, rfl, rfl, tyName_mem x, hT, k _ H1 c1 x1 so1 (.bl _)⟩⟩
theorem s_ty {op : CmpOp} {neg : Bool} {T x : Str} {TT : String} {p p2 : Pos} {f : XE} (ho : OpR X (compareOp op) (rTyC neg)) (hm : behindInMarks op (.Name T p2) = false) (hT : TT ∈ tyNames) (h : PE X (.Call (.Name x p) [e] [] pos) (tCB (rTyp X.K) (tCons (tR X.K f) tNil))) (hN : PE X (.Name T p2) (tC (.ty TT))) :
    PE X (.Compare (.Call (.Name x p) [e] [] pos) [op] [.Name T p2] pos') (tE X.K (tyX neg TT f)) := (pe_cmpR ho h hN hm).imp fun σ H Q h => tyc_ok hT h
theorem s_tty {op : CmpOp} {neg : Bool} {T x : Str} {TT : String} {p p2 : Pos} {f : XE} (ho : OpR X (compareOp op) (rTyC neg)) (hm : behindInMarks op (.Name T p2) = false) (hT : TT ∈ tyNames) (h : PE X (.Call (.Name x p) [e] [] pos) (tCB (rTyp X.K) (tCons (tR X.K f) tNil))) (hN : PE X (.Name T p2) (tC (.ty TT))) :
    PT X (.Compare (.Call (.Name x p) [e] [] pos) [op] [.Name T p2] pos') (tT X.K (asB (tyX neg TT f))) := (pt_cmpR ho h hN hm).imp fun σ H Q h => tyc_ok hT (tT_test h)

/-! ### isinstance(e, T) -/
def isTab (a T : String) : Bool := decide (a = T) || (decide (a = "bool") && decide (T = "int"))
def isTys : List String := ["int", "bool", "str", "tuple", "list"]
theorem kit_tab {K : PySem.W.Frag} {a T : String} (ha : a ∈ tyNames) (hT : T ∈ isTys) : PySem.W.kitOne K (.type a) (.type T) = some (isTab a T) := by
  simp only [tyNames, List.mem_cons, List.not_mem_nil, or_false] at ha
  simp only [isTys, List.mem_cons, List.not_mem_nil, or_false] at hT
  rcases ha with rfl | rfl | rfl | rfl | rfl | rfl | rfl <;> rcases hT with rfl | rfl | rfl | rfl | rfl <;> rfl
theorem dr_tyx {K : PySem.W.Frag} {H : Hp} {cs : CS} {v : V} {d : PyData} (h : Dq H cs v d) : TyX K H v (.type (tyName d)) := by
  cases h with
  | non => exact .base .non
  | bl b => exact .base (.bl b)
  | int i => exact .base (.int i)
  | str x => exact .base (.str x)
  | lst h l r => exact .base (.lst h)
  | tup h l r => exact .base (.tup h)
  | dic h l r => exact .base (.dK h)
def isiX (T : String) (f : XE) : XE := fun ρ => do let x ← f ρ; pure (.bool (isTab (tyName x) T))
theorem s_isi {T : Str} {TT : String} {x : Str} {p p2 : Pos} {f : XE} (hT : TT ∈ isTys) (h : PE X (.Call (.Name x p) [e, .Name T p2] [] pos) (tCB (rIsi X.K) (tCons (tE X.K f) (tCons (tC (.ty TT)) tNil)))) :
    PE X (.Call (.Name x p) [e, .Name T p2] [] pos) (tE X.K (isiX TT f)) := h.imp fun σ H Q ⟨ρ, cs, st, d, st', sl, so, ev, k⟩ => by
  obtain ⟨y, s1, e1, e2⟩ := bind_some ev
  obtain ⟨rfl, rfl⟩ := pure_some e2
  exact ⟨ρ, cs, st, y, s1, sl, so, e1, fun v H1 c1 x1 so1 q1 => ⟨v, .ty TT, .type (tyName y), .type TT, isTab (tyName y) TT, rfl, .ty TT, dr_tyx q1, kit_tab (tyName_mem y) hT, k _ H1 c1 x1 so1 (.bl _)⟩⟩

/-! ### repr -/
mutual
theorem nod_hd : ∀ d : PyData, nod d = true → d.hasDict = false
  | .none, _ => by simp [PyData.hasDict]
  | .bool _, _ => by simp [PyData.hasDict]
  | .int _, _ => by simp [PyData.hasDict]
  | .str _, _ => by simp [PyData.hasDict]
  | .list xs, h => by simp only [PyData.hasDict]; exact nods_hd xs (by simpa [nod] using h)
  | .tuple xs, h => by simp only [PyData.hasDict]; exact nods_hd xs (by simpa [nod] using h)
  | .dict _, h => by simp [nod] at h
theorem nods_hd : ∀ ds : List PyData, nods ds = true → PyData.hasDictAll ds = false
  | [], _ => by simp [PyData.hasDictAll]
  | d :: ds, h => by
    simp only [nods, Bool.and_eq_true] at h
    simp only [PyData.hasDictAll, Bool.or_eq_false_iff]
    exact ⟨nod_hd d h.1, nods_hd ds h.2⟩
end
def reprOk (d : PyData) : Bool := nod d && SeqAt.shaped d && d.showable && decide (d.shown.length ≤ sizeLine)
def rRepr (K : PySem.W.Frag) : List V → Hp → VK → Prop := fun xs H Q => ∃ x d, xs = [x] ∧ Dp K H x d ∧ reprOk d = true ∧ Q (.str d.shown) H
theorem call_repr_d (hg : X.A.guards = some []) (hu : X.A.units + 66 < cLine) : CallR X (.builtin "repr") (rRepr X.K) := by
  rintro pins s σ H xs us Q I r ⟨x, d, rfl, hd, ok, q⟩
  obtain ⟨u, rfl, ru⟩ := vals1 r
  simp only [reprOk, Bool.and_eq_true, decide_eq_true_eq] at ok
  obtain ⟨⟨⟨o1, o2⟩, o3⟩, o4⟩ := ok
  have dep := SeqAt.depth_of_shaped o2
  obtain ⟨as, rd⟩ := Dp.reads I d x u hd ru
  have deep : ∀ a, u = .ref a → wpAny (model X.prog X.w) X.A (call (.builtin "repr") [u]) (EP X pins σ Q) X.xe s := by
    rintro a rfl
    exact repr_of_reads' rd o3 (fun z => by rw [nod_hd d o1] at z; cases z) hg (by omega) (fun b o e => e) (fun h' u tk hk => ⟨.str _, H, I.kept (t' := tk) hk, ⟨_, rfl⟩, q⟩) o4
  cases hd with
  | non => cases ru; exact PySem.P.repr_of_none ⟨.str _, H, I.tok _, ⟨_, rfl⟩, by simpa only [PyData.shown] using q⟩
  | bl b => cases ru; exact PySem.P.repr_of_bool ⟨.str _, H, I.tok _, ⟨_, rfl⟩, by simpa only [PyData.shown] using q⟩
  | int i =>
    obtain ⟨t, rfl⟩ := ru
    exact PySem.P.repr_of_int (by simpa [PyData.showable] using o3) ⟨.str _, H, I.tok _, ⟨_, rfl⟩, by simpa only [PyData.shown] using q⟩
  | str z =>
    obtain ⟨t, rfl⟩ := ru
    exact PySem.P.repr_of_str ⟨.str _, H, I.tok _, ⟨_, rfl⟩, by simpa only [PyData.shown] using q⟩ (by simpa only [PyData.shown] using o4)
  | lst _ _ => exact deep _ ru
  | tup _ _ => exact deep _ ru
def reprD (d : PyData) : Option PyData := if reprOk d = true then some (.str d.shown) else none
theorem repr_u {K : PySem.W.Frag} : OpU K (rRepr K) reprD := by
  intro H cs v d z Q lv hx hg k
  unfold reprD at hg
  split at hg
  · rename_i ok
    cases hg
    have o1 : nod d = true := by
      simp only [reprOk, Bool.and_eq_true] at ok
      exact ok.1.1.1
    exact ⟨v, d, rfl, hx.dp o1, ok, k _ H (Same.refl H) (.str _)⟩
  · cases hg
end

/-! ### tuple * int -/
section
theorem tup_mul1 (l : Addr) (items : Array Value) (n : Nat) (dd : Option Addr) (sl : Array (Option Value)) (u : Tok) :
    Meets (Builtin.«tuple.__mul__» ⟨[.ref l, .int 1 u], []⟩) (fun _ R s => s.heap.get? l = some { cls := .type "tuple", dict := dd, data := .seq items n, slots := sl } ∧ R (.ok (.ret (Value.ref l))) s) :=
  .of_wp fun prog w A R s hh => by
    obtain ⟨hp, g, d, tk, os⟩ := s
    obtain ⟨hl, k⟩ := hh
    have f1 := AutoSeq1.idx_int
    have c1 : (items.isEmpty || (1 : Int) == 1) = true := by simp
    wp_walk using wpAny_loadPart' hl
    repeat (first
      | (refine wpAny_ite_false (decide_eq_false (by decide)) ?_; wp_walk using wpAny_loadPart' hl)
      | (refine wpAny_ite_true (decide_eq_true c1) ?_; wp_walk using wpAny_loadPart' hl))
    exact ⟨_, rfl, k⟩
end
end EF

set_option Elab.async false
set_option linter.all false
set_option maxRecDepth 100000
/-! EF11: tuple * int, list * int; zip of three tuples. -/
namespace EF
open PySem PySem.Spec PyProof.Rows L2
section
variable {X : Cx} {e a b : Expr} {pos : Pos}
def rRep1 (K : PySem.W.Frag) : R2 := fun x y H Q => ∃ l xs, x = .ref l ∧ y = .int 1 ∧ SqT K H l xs ∧ Q (.ref l) H
theorem op_rep1 : OpR X (binaryOp .Mult) (rRep1 X.K) := by
  rintro pins s σ H x y v u Q I rx ry ⟨l, xs, rfl, rfl, hT, q⟩
  cases rx
  obtain ⟨t, rfl⟩ := ry
  obtain ⟨its, r, ⟨⟨cls, dd, data, sl⟩, ho, hc, n, hd⟩, hs⟩ := I.tuple hT
  simp only at hc hd
  subst hc hd
  exact wpAny_binaryOp_repeat_ref (T := "tuple") (U := "int") (by decide) ⟨_, ho, rfl⟩ (fun s' => typeIs_int s' 1 t) noFill_tuple_mul F.fills_int_mul F.slot_int_rmul repeat_tuple F.slot_int_index.lookup
    (call_meets F.slot_int_rmul (typeIs_int s 1 t) F.entry_int_rmul (F.args_int_rmul_2 _ _) (int_rmul_tuple 1 t l its.toArray n dd sl)
      ⟨ho, rfl, ⟨_, ho, rfl⟩, call_meets F.slot_tuple_mul ⟨_, ho, rfl⟩ F.entry_tuple_mul (F.args_tuple_mul_2 _ _) (tup_mul1 l its.toArray n dd sl t) ⟨ho, ⟨.ref l, H, I, rfl, q⟩⟩⟩)
def mulT : PyData → PyData → Option PyData
  | .tuple xs, .int k => if xs ≠ [] ∧ 1 ≤ k ∧ k ≤ 1000 ∧ xs.length ≤ 1000 then some (.tuple (List.replicate k.toNat xs).flatten) else none
  | _, _ => none
theorem rep_all {H : Hp} {cs : CS} {xs : List V} {ds : List PyData} (r : DqAll H cs xs ds) : ∀ n : Nat, DqAll H cs (List.replicate n xs).flatten (List.replicate n ds).flatten
  | 0 => .nil
  | n + 1 => by
    rw [List.replicate_succ, List.replicate_succ, List.flatten_cons, List.flatten_cons]
    exact r.append (rep_all r n)
theorem mult_q {K : PySem.W.Frag} : OpQ K (fun x y H Q => rRep1 K x y H Q ∨ rRepT K x y H Q) mulT := by
  intro H cs x y d e z Q lv hx hy hg k
  unfold mulT at hg
  split at hg
  · split at hg
    · rename_i xs kk hc
      obtain ⟨h0, h1, h2, h3⟩ := hc
      cases hg
      cases hx with
      | tup hh l r =>
        have hk := dq_int hy
        subst hk
        by_cases h : kk = 1
        · subst h
          refine .inl ⟨_, _, rfl, rfl, SqT.of hh, ?_⟩
          have e1 : (List.replicate (1 : Int).toNat xs).flatten = xs := by
            show (List.replicate 1 xs).flatten = xs
            simp
          rw [e1] at k
          exact k _ H (Same.refl H) (.tup hh l r)
        · refine .inr ⟨_, kk, _, rfl, rfl, SqT.of hh, fun q => h0 ?_, by omega, h2, by rw [r.length]; exact h3, fun p hp => k _ _ (same_new hp) (new_tup lv hp (rep_all r _))⟩
          subst q
          cases r
          rfl
    · cases hg
  · cases hg
def mulL : PyData → PyData → Option PyData
  | .list xs, .int k => if -(2 ^ 63) ≤ k ∧ k < 2 ^ 63 ∧ xs.length * k.toNat ≤ sizeLine then some (.list (List.replicate k.toNat xs).flatten) else none
  | _, _ => none
theorem mull_q {K : PySem.W.Frag} : OpQ K rRep mulL := by
  intro H cs x y d e z Q lv hx hy hg k
  unfold mulL at hg
  split at hg
  · split at hg
    · rename_i xs kk hc
      obtain ⟨h1, h2, h3⟩ := hc
      cases hg
      cases hx with
      | lst hh l r =>
        have hk := dq_int hy
        subst hk
        exact ⟨_, kk, _, rfl, rfl, hh, h1, h2, by rw [r.length]; exact h3, fun p hp => k _ _ (same_new hp) (new_lst lv hp (rep_all r _))⟩
    · cases hg
  · cases hg
/-- a * b -/
def mulD (d e : PyData) : Option PyData := (mulI d e).or ((mulT d e).or (mulL d e))
theorem s_mul {f1 f2 : XE} (ha : PE X a (tE X.K f1)) (hb : PE X b (tE X.K f2)) : PE X (.BinOp a .Mult b pos) (tE X.K (bin2 mulD f1 f2)) :=
  s_binq (g := mulD) (op_mulW.or ((op_rep1.or op_repT).or op_rep)) ((ii_q mid_mul).or (mult_q.or mull_q)) ha hb

/-! ### zip of three tuples -/
def ZtT (K : PySem.W.Frag) (a b c : Addr) : It :=
  ⟨fun i H => ∃ (xs ys zs : List V) (x y z : V), SqT K H a xs ∧ SqT K H b ys ∧ SqT K H c zs ∧ xs[i]? = some x ∧ ys[i]? = some y ∧ zs[i]? = some z,
    fun i H v H' => ∃ T x y z, v = .ref T ∧ H T = none ∧ H' = upd H T (.tup [x, y, z]) ∧ (∀ xs, SqT K H a xs → xs[i]? = some x) ∧ (∀ ys, SqT K H b ys → ys[i]? = some y) ∧ ∀ zs, SqT K H c zs → zs[i]? = some z,
    fun i H => ∃ xs ys zs : List V, SqT K H a xs ∧ SqT K H b ys ∧ SqT K H c zs ∧ i ≤ xs.length ∧ i ≤ ys.length ∧ i ≤ zs.length ∧ (i = xs.length ∨ i = ys.length ∨ i = zs.length)⟩
structure Zp3 (z TI TO i1 i2 i3 a b c : Addr) : Prop where
  s : ZipSep3 z TI TO i1 i2 i3 [i1, a] [i2, b] [i3, c]
  d1 : a ≠ i1
  d2 : b ≠ i2
  d3 : c ≠ i3
theorem letgo_zip3 {prog : Program} {w : World} {A : Around} {E : Value → Shared → Prop} {s : Shared} {elts : List Expr} {k : Nat} {pos : Pos} {z TI TO T : Addr} {Q : Unit → Shared → Prop} (hz : IsZip s.heap z TI TO (rawInt T))
    (h : ∀ h', IsZip h' z TI TO .none → Heap.SameBut z s.heap h' → Q () { s with heap := h' }) : wpAny (model prog w) A (letOwnedTupleGo (.Tuple elts k pos) (.ref z) (.ref T)) Q E s := wpAny_letOwnedTupleGo_zip hz h
theorem turn_z3 {P : Program} {w : World} {K : PySem.W.Frag} {elts : List Expr} {kk : Nat} {tpos : Pos} {a b c z TI TO i1 i2 i3 : Addr} (D : Zp3 z TI TO i1 i2 i3 a b c) :
    Turn P w K (.Tuple elts kk tpos) (ZtT K a b c) [z, TI, TO, i1, i2, i3] z (fun i h => IsZip h z TI TO .none ∧ IsTupOf3 h TI (.ref i1) (.ref i2) (.ref i3) ∧ (∃ x y u, IsTupOf3 h TO x y u) ∧ h.IsTupleIter i1 a i ∧ h.IsTupleIter i2 b i ∧ h.IsTupleIter i3 c i) where
  mem := List.mem_cons_self
  obj := fun i h st y hy => by
    obtain ⟨hz, hTI, ⟨x1, x2, x3, hTO⟩, ⟨o1, e1, _, d1⟩, ⟨o2, e2, _, d2⟩, ⟨o3, e3, _, d3⟩⟩ := st
    simp only [List.mem_cons, List.not_mem_nil, or_false] at hy
    rcases hy with rfl | rfl | rfl | rfl | rfl | rfl
    · exact ⟨_, hz, fun v q => by cases q⟩
    · exact ⟨_, hTI, fun v q => by cases q⟩
    · exact ⟨_, hTO, fun v q => by cases q⟩
    · exact ⟨o1, e1, fun v q => by rw [d1] at q; cases q⟩
    · exact ⟨o2, e2, fun v q => by rw [d2] at q; cases q⟩
    · exact ⟨o3, e3, fun v q => by rw [d3] at q; cases q⟩
  keep := fun i h h' ⟨hz, hTI, ⟨x1, x2, x3, hTO⟩, h1, h2, h3⟩ k =>
    ⟨k z (by simp) _ hz, k TI (by simp) _ hTI, ⟨x1, x2, x3, k TO (by simp) _ hTO⟩, h1.at fun o q => k i1 (by simp) o q, h2.at fun o q => k i2 (by simp) o q, h3.at fun o q => k i3 (by simp) o q⟩
  item := by
    intro X hP hw hK hc i pins s σ H E I hf st hg
    subst hP hw hK
    obtain ⟨hz, hTI, ⟨x1, x2, x3, hTO⟩, h1, h2, h3⟩ := st
    obtain ⟨xs, ys, zs, x, y, u, hq1, hq2, hq3, g1, g2, g3⟩ := hg
    obtain ⟨its1, r1, p1, _⟩ := I.tuple hq1
    obtain ⟨its2, r2, p2, _⟩ := I.tuple hq2
    obtain ⟨its3, r3, p3, _⟩ := I.tuple hq3
    obtain ⟨v1, w1, q1⟩ := r1.get g1
    obtain ⟨v2, w2, q2⟩ := r2.get g2
    obtain ⟨v3, w3, q3⟩ := r3.get g3
    have lt : ∀ {l : List Value} {v : Value}, l[i]? = some v → i < l.toArray.size := fun {l v} h => by
      have := (List.getElem?_eq_some_iff.mp h).1
      simpa using this
    have one : ∀ {l : List Value} {v v' : Value}, l[i]? = some v → l.toArray[i]? = some v' → v' = v := fun {l v v'} h h' => by
      have e : l.toArray[i]? = some v := by simpa using h
      rw [e] at h'
      exact (Option.some.inj h').symm
    have hzl : z < s.heap.objs.size := Heap.lt_size hz
    have hd : X.A.in1.handled = none := I.ok.hd hc
    refine wpAny_pyNext_zipD3_item D.s (Draws.tuple (A := X.A.in1) hd i1 a D.d1 its1.toArray) (Draws.tuple (A := X.A.in1) hd i2 b D.d2 its2.toArray) (Draws.tuple (A := X.A.in1) hd i3 c D.d3 its3.toArray) hz hTI hTO ⟨h1, p1⟩ ⟨h2, p2⟩ ⟨h3, p3⟩ (lt w1) (lt w2) (lt w3)
      fun y1 y2 y3 h' tk e1 e2 e3 z' TO' t1 t2 t3 hT hsz hk => ?_
    obtain rfl := one w1 e1
    obtain rfl := one w2 e2
    obtain rfl := one w3 e3
    refine ⟨_, rfl, letgo_zip3 (s := { s with heap := h', toks := tk }) z' fun h'' z'' sb => ?_⟩
    have hT2 : h''.get? s.heap.objs.size = some { cls := .type "tuple", data := .seq #[y1, y2, y3] } := (sb.2 _ (Nat.ne_of_gt hzl)).trans hT
    have new : ObjOk X.prog X.w (upd H s.heap.objs.size (.tup [x, y, u])) h'' s.heap.objs.size (.tup [x, y, u]) :=
      ⟨by show 3 ≤ sizeLine; decide, [y1, y2, y3], .cons q1 (.cons q2 (.cons q3 .nil)), ⟨_, hT2, rfl, _, rfl⟩⟩
    have I1 := I.turnedNew (t' := tk) (h' := h'') (ch := [z, TI, TO, i1, i2, i3]) (fun m o hm q => (sb.2 m (fun e => hm (by simp [e]))).trans (hk m o (fun e => hm (by simp [e])) (fun e => hm (by simp [e])) (fun e => hm (by simp [e])) (fun e => hm (by simp [e])) (fun e => hm (by simp [e])) q)) hf (Nat.le_refl _) new
    refine ⟨.ref s.heap.objs.size, _, I1, rfl, ⟨_, x, y, u, rfl, I.hok.fresh (Nat.le_refl _), rfl, fun l hl => by rw [I.tuple_inj hl hq1]; exact g1, fun l hl => by rw [I.tuple_inj hl hq2]; exact g2, fun l hl => by rw [I.tuple_inj hl hq3]; exact g3⟩, ⟨z'', ?_, ⟨y1, y2, y3, ?_⟩, ?_, ?_, ?_⟩, fun m hm => ?_⟩
    · have z1 : TI ≠ z := D.s.TIz
      exact (sb.2 _ z1).trans (hk _ _ z1 D.s.TITO D.s.TIi1 D.s.TIi2 D.s.TIi3 hTI)
    · exact (sb.2 _ D.s.TOz).trans TO'
    · exact t1.1.at fun o q => (sb.2 _ (Ne.symm D.s.zi1)).trans q
    · exact t2.1.at fun o q => (sb.2 _ (Ne.symm D.s.zi2)).trans q
    · exact t3.1.at fun o q => (sb.2 _ (Ne.symm D.s.zi3)).trans q
    · have hlt : m < s.heap.objs.size := by
        have hm' := hm
        simp only [List.mem_cons, List.not_mem_nil, or_false] at hm'
        rcases hm' with e | e | e | e | e | e
        · rw [e]; exact hzl
        · rw [e]; exact Heap.lt_size hTI
        · rw [e]; exact Heap.lt_size hTO
        · rw [e]; obtain ⟨_, q, _⟩ := h1; exact Heap.lt_size q
        · rw [e]; obtain ⟨_, q, _⟩ := h2; exact Heap.lt_size q
        · rw [e]; obtain ⟨_, q, _⟩ := h3; exact Heap.lt_size q
      rw [upd_ne (Nat.ne_of_lt hlt)]
      exact (hf m hm).1
  done := by
    intro X hP hw hK hc i pins s σ H E I hf st hg
    subst hP hw hK
    obtain ⟨hz, hTI, ⟨x1, x2, x3, hTO⟩, h1, h2, h3⟩ := st
    obtain ⟨xs, ys, zs, hq1, hq2, hq3, k1, k2, k3, hend⟩ := hg
    obtain ⟨its1, r1, p1, _⟩ := I.tuple hq1
    obtain ⟨its2, r2, p2, _⟩ := I.tuple hq2
    obtain ⟨its3, r3, p3, _⟩ := I.tuple hq3
    have l1 := r1.length
    have l2 := r2.length
    have l3 := r3.length
    have hd : X.A.in1.handled = none := I.ok.hd hc
    exact wpAny_pyNext_zipD3_end D.s (Draws.tuple (A := X.A.in1) hd i1 a D.d1 its1.toArray) (Draws.tuple (A := X.A.in1) hd i2 b D.d2 its2.toArray) (Draws.tuple (A := X.A.in1) hd i3 c D.d3 its3.toArray) hz hTI hTO ⟨h1, p1⟩ ⟨h2, p2⟩ ⟨h3, p3⟩
      (by simp; omega) (by simp; omega) (by simp; omega) (by simp; omega) fun h' tk hk => ⟨rfl, I.turnedL (t' := tk) (ch := [z, TI, TO, i1, i2, i3]) (fun m o hm q => hk m o (fun e => hm (by simp [e])) (fun e => hm (by simp [e])) (fun e => hm (by simp [e])) (fun e => hm (by simp [e])) (fun e => hm (by simp [e])) q) hf⟩
  self := fun A i s Q E st h => wpAny_pyIter_zip st.1 h
def iZ3 (K : PySem.W.Frag) (ta : TA) : TI := fun σ H R => ta σ H fun vs H1 => ∃ a b c xs ys zs, vs = [.ref a, .ref b, .ref c] ∧ SqT K H1 a xs ∧ SqT K H1 b ys ∧ SqT K H1 c zs ∧ R (ZtT K a b c) H1
theorem pi_z3 {e1 e2 e3 : Expr} {ta : TA} {p tpos : Pos} {elts : List Expr} {kk : Nat} (hg : Gl X "zip") (hm : X.mg "zip" = none) (ha : PA X [e1, e2, e3] ta) (hs : starEach [e1, e2, e3] X.env = (false, eval e1 X.env) :: starEach [e2, e3] X.env)
    (hpl : (backTo pos (starEach [e2, e3] X.env)).any (·.1) = false) : PI X (.Tuple elts kk tpos) (.Call (.Name "zip" p) [e1, e2, e3] [] pos) (iZ3 X.K ta) := by
  refine ⟨fun pins s σ H R I h => Call_ (ld_blt I hg hm PyProof.Rows.boot_zip (PyProof.Rows.callWith_type1 (thn (ha.run pos pins s σ H _ I h) ?_) hs hpl))⟩
  rintro us s1 ⟨vs, H1, J, r, a, b, c, xs, ys, zs, rfl, h1, h2, h3, q⟩
  obtain ⟨u1, u2, u3, rfl, ra, rb, rc⟩ : ∃ u1 u2 u3, us = [u1, u2, u3] ∧ RelV (.ref a) u1 ∧ RelV (.ref b) u2 ∧ RelV (.ref c) u3 := by
    cases r with
    | cons ra r =>
      cases r with
      | cons rb r =>
        cases r with
        | cons rc r =>
          cases r
          exact ⟨_, _, _, rfl, ra, rb, rc⟩
  cases ra
  cases rb
  cases rc
  obtain ⟨its1, r1, p1, _⟩ := J.tuple h1
  obtain ⟨its2, r2, p2, _⟩ := J.tuple h2
  obtain ⟨its3, r3, p3, _⟩ := J.tuple h3
  have la := p1.lt
  have lb := p2.lt
  have lc := p3.lt
  refine zip_begins3 (begins_tuple a its1.toArray) (begins_tuple b its2.toArray) (begins_tuple c its3.toArray) p1 p2 p3 fun h' hz hTI hTO g1 g2 g3 hsz hk => wpAny_pyIter_zip hz ?_
  have D : Zp3 (s1.heap.objs.size + 5) (s1.heap.objs.size + 3) (s1.heap.objs.size + 4) s1.heap.objs.size (s1.heap.objs.size + 1) (s1.heap.objs.size + 2) a b c :=
    ⟨zip_sep3 (fp1 := [a]) (fp2 := [b]) (fp3 := [c]) (fun m hm => by rw [List.mem_singleton] at hm; rw [hm]; exact la) (fun m hm => by rw [List.mem_singleton] at hm; rw [hm]; exact lb) (fun m hm => by rw [List.mem_singleton] at hm; rw [hm]; exact lc),
      Nat.ne_of_lt la, Nat.ne_of_lt (Nat.lt_succ_of_lt lb), Nat.ne_of_lt (Nat.lt_succ_of_lt (Nat.lt_succ_of_lt lc))⟩
  refine ⟨s1.heap.objs.size + 5, _, _, _, H1, rfl, J.kept (t' := s1.toks) hk, turn_z3 D, ⟨hz, hTI, ⟨_, _, _, hTO⟩, ⟨_, g1, rfl, rfl⟩, ⟨_, g2, rfl, rfl⟩, ⟨_, g3, rfl, rfl⟩⟩, fun m hm => ?_, q⟩
  have hle : s1.heap.objs.size ≤ m := by
    simp only [List.mem_cons, List.not_mem_nil, or_false] at hm
    rcases hm with e | e | e | e | e | e <;> rw [e]
    · exact Nat.le_add_right _ _
    · exact Nat.le_add_right _ _
    · exact Nat.le_add_right _ _
    · exact Nat.le_refl _
    · exact Nat.le_add_right _ _
    · exact Nat.le_add_right _ _
  exact J.fpOk hle (J.hok.fresh hle)
def zip3D : List PyData → List PyData → List PyData → List PyData
  | x :: xs, y :: ys, z :: zs => .tuple [x, y, z] :: zip3D xs ys zs
  | _, _, _ => []
theorem zip3D_len : ∀ {xs ys zs : List PyData}, xs.length = ys.length → xs.length = zs.length → (zip3D xs ys zs).length = xs.length
  | [], _, _, _, _ => rfl
  | _ :: _, [], _, h, _ => by simp at h
  | _ :: _, _ :: _, [], _, h => by simp at h
  | x :: xs, y :: ys, z :: zs, h1, h2 => by
    simp only [zip3D, List.length_cons]
    rw [zip3D_len (by simpa using h1) (by simpa using h2)]
theorem zip3D_at : ∀ {xs ys zs : List PyData} {i : Nat} {x y z : PyData}, xs[i]? = some x → ys[i]? = some y → zs[i]? = some z → (zip3D xs ys zs)[i]? = some (.tuple [x, y, z])
  | [], _, _, _, _, _, _, h, _, _ => by simp at h
  | _ :: _, [], _, _, _, _, _, _, h, _ => by simp at h
  | _ :: _, _ :: _, [], _, _, _, _, _, _, h => by simp at h
  | a :: xs, b :: ys, c :: zs, 0, x, y, z, h1, h2, h3 => by simp at h1 h2 h3; subst h1 h2 h3; rfl
  | a :: xs, b :: ys, c :: zs, i + 1, x, y, z, h1, h2, h3 => by
    simp only [zip3D, List.getElem?_cons_succ]
    exact zip3D_at (by simpa using h1) (by simpa using h2) (by simpa using h3)
theorem wk_z3 {K : PySem.W.Frag} {a b c : Addr} {ds es fs : List PyData} (h1 : ds.length = es.length) (h2 : ds.length = fs.length) : Wk K (ZtT K a b c) (zip3D ds es fs) (fun _ => True)
    (fun H cs => (∃ xs, H a = some (.tup xs) ∧ ¬ Live cs a ∧ DqAll H cs xs ds) ∧ (∃ ys, H b = some (.tup ys) ∧ ¬ Live cs b ∧ DqAll H cs ys es) ∧ ∃ zs, H c = some (.tup zs) ∧ ¬ Live cs c ∧ DqAll H cs zs fs) where
  stay := fun H cs H' cs' ⟨⟨xs, q1, l1, r1⟩, ⟨ys, q2, l2, r2⟩, ⟨zs, q3, l3, r3⟩⟩ f => ⟨⟨xs, f.keep _ _ q1 l1, f.nlive _ _ q1 l1, f.dqs r1⟩, ⟨ys, f.keep _ _ q2 l2, f.nlive _ _ q2 l2, f.dqs r2⟩, ⟨zs, f.keep _ _ q3 l3, f.nlive _ _ q3 l3, f.dqs r3⟩⟩
  go := fun i H cs st hi ⟨⟨xs, q1, l1, r1⟩, ⟨ys, q2, l2, r2⟩, ⟨zs, q3, l3, r3⟩⟩ _ _ => by
    rw [zip3D_len h1 h2] at hi
    obtain ⟨v1, e1, _⟩ := r1.get (List.getElem?_eq_getElem hi)
    obtain ⟨v2, e2, _⟩ := r2.get (List.getElem?_eq_getElem (show i < es.length by omega))
    obtain ⟨v3, e3, _⟩ := r3.get (List.getElem?_eq_getElem (show i < fs.length by omega))
    exact ⟨xs, ys, zs, v1, v2, v3, SqT.of q1, SqT.of q2, SqT.of q3, e1, e2, e3⟩
  stop := fun H cs st ⟨⟨xs, q1, l1, r1⟩, ⟨ys, q2, l2, r2⟩, ⟨zs, q3, l3, r3⟩⟩ _ _ => by
    have k1 := r1.length
    have k2 := r2.length
    have k3 := r3.length
    rw [zip3D_len h1 h2]
    exact ⟨xs, ys, zs, SqT.of q1, SqT.of q2, SqT.of q3, by omega, by omega, by omega, by omega⟩
  yld := fun i H cs st x H' hi ⟨⟨xs, q1, l1, r1⟩, ⟨ys, q2, l2, r2⟩, ⟨zs, q3, l3, r3⟩⟩ so _ ⟨T, x0, y0, z0, e, hT, e2, k1, k2, k3⟩ => by
    subst e e2
    rw [zip3D_len h1 h2] at hi
    have g1 := List.getElem?_eq_getElem hi
    have g2 := List.getElem?_eq_getElem (show i < es.length by omega)
    have g3 := List.getElem?_eq_getElem (show i < fs.length by omega)
    obtain ⟨v1, e1, d1⟩ := r1.get g1
    obtain ⟨v2, e2, d2⟩ := r2.get g2
    obtain ⟨v3, e3, d3⟩ := r3.get g3
    rw [k1 xs (SqT.of q1)] at e1
    rw [k2 ys (SqT.of q2)] at e2
    rw [k3 zs (SqT.of q3)] at e3
    cases e1; cases e2; cases e3
    exact ⟨same_new hT, _, zip3D_at g1 g2 g3, new_tup so.lv hT (.cons d1 (.cons d2 (.cons d3 .nil)))⟩
def zip3I (f : Rho → M (List PyData)) : XI := fun ρ => do
  let xs ← f ρ
  match xs with
  | [.tuple ds, .tuple es, .tuple fs] => if ds.length = es.length ∧ ds.length = fs.length then pure (zip3D ds es fs, fun _ => True) else fail
  | _ => fail
theorem s_zip3 {e1 e2 e3 : Expr} {f : Rho → M (List PyData)} {p tpos : Pos} {elts : List Expr} {kk : Nat} (hg : Gl X "zip") (hm : X.mg "zip" = none) (ha : PA X [e1, e2, e3] (tA X.K f)) (hs : starEach [e1, e2, e3] X.env = (false, eval e1 X.env) :: starEach [e2, e3] X.env)
    (hpl : (backTo pos (starEach [e2, e3] X.env)).any (·.1) = false) : PI X (.Tuple elts kk tpos) (.Call (.Name "zip" p) [e1, e2, e3] [] pos) (tI X.K (zip3I f)) := (pi_z3 hg hm ha hs hpl).imp fun σ H R ⟨ρ, cs, st, ds, gd, st', sl, so, ev, k⟩ => by
  obtain ⟨xs, s1, e1, e2⟩ := bind_some ev
  refine ⟨ρ, cs, st, xs, s1, sl, so, e1, fun vs H1 c1 x1 so1 q1 => ?_⟩
  split at e2
  · split at e2
    · rename_i hl
      obtain ⟨h3, rfl⟩ := pure_some e2
      cases h3
      cases q1 with
      | cons qa q1 =>
        cases q1 with
        | cons qb q1 =>
          cases q1 with
          | cons qc q1 =>
            cases q1
            cases qa with
            | tup ha la ra =>
              cases qb with
              | tup hb lb rb =>
                cases qc with
                | tup hc lc rc => exact ⟨_, _, _, _, _, _, rfl, SqT.of ha, SqT.of hb, SqT.of hc, k _ H1 c1 _ x1 so1 (wk_z3 hl.1 hl.2) ⟨⟨_, ha, la, ra⟩, ⟨_, hb, lb, rb⟩, ⟨_, hc, lc, rc⟩⟩⟩
    · exact (fail_some e2).elim
  · exact (fail_some e2).elim
end
end EF

set_option Elab.async false
set_option linter.all false
set_option maxRecDepth 100000
set_option maxHeartbeats 2000000
/-! EF22: a set of ints by comprehension. -/
namespace EF
open PySem PySem.Spec PyProof.Rows L2

/-- a set of ints that a block fills -/
def SetIO (w : World) (a : Addr) (S : Int → Bool) (n : Nat) : HO := .ext fun h => SetR w h a S n
theorem setIO_ok {w : World} {P : Program} {H : Hp} {h : Heap} {a : Addr} {S : Int → Bool} {n : Nat} (R : SetR w h a S n) : ObjOk P w H h a (SetIO w a S n) := by
  obtain ⟨o, _, _, _, q, _⟩ := id R
  exact ⟨R, ⟨o, q⟩, fun h1 h2 r k => SetR.at r k⟩
section
variable {X : Cx}
theorem setIO_at {pins : List (Addr × Obj)} {σ : L2.St} {H : Hp} {s : Shared} {a : Addr} {S : Int → Bool} {n : Nat} (I : Inv X pins σ H s) (e : H a = some (SetIO X.w a S n)) : SetR X.w s.heap a S n := (I.hok a _ e).1
theorem setIO_add {pins : List (Addr × Obj)} {σ : L2.St} {H : Hp} {s : Shared} {E : Value → Shared → Prop} {D : Addr} {S : Int → Bool} {n : Nat} {k : Int} {tk : Tok} {Q : Value → Shared → Prop} (I : Inv X pins σ H s) (e : H D = some (SetIO X.w D S n)) (room : n + 1 < scanBound)
    (q : ∀ s', Inv X pins σ (upd H D (SetIO X.w D (fun j => S j || decide (j = k)) (if S k = true then n else n + 1))) s' → Q .none s') : wpAny (model X.prog X.w) X.A (call (.builtin "set.add") [.ref D, .int k tk]) Q E s := by
  refine setR_add (setIO_at I e) room fun h' sb R' => q _ ?_
  obtain ⟨o, _, _, _, ho, _⟩ := id R'
  exact I.write (e := D) (t' := s.toks + 1) (by rw [e]; trivial) (.inl rfl) (fun b u nb hu => (sb.2 b nb).trans hu) ⟨o, ho⟩ (setIO_ok R')
/-- the reading of {elt for target in iter}, the members ints: W as of a list's -/
def tSi (w : World) (wi : TI) (g : TG) (te : TE) (vs : List Nat) : TE := fun σ H Q => wi σ H fun J H1 => ∀ D, H1 D = none → ∃ W : Nat → Nat → Hp → Prop, (∃ m, W 0 m (upd H1 D (SetIO w D (fun _ => false) 0))) ∧ ∀ i m H, W i m H →
  (J.stop i H ∧ Q (.ref D) H) ∨ (J.go i H ∧ ∃ Nx : Hp → Prop, (∀ H', Nx H' → ∃ m', m' < m ∧ W (i + 1) m' H') ∧ ∀ x H', J.yld i H x H' → g x (wipe σ vs) H' fun σ2 H2 => wipe σ2 vs = wipe σ vs ∧
    te σ2 H2 fun y H3 => ∃ (k : Int) (S : Int → Bool) (n : Nat), y = .int k ∧ H3 D = some (SetIO w D S n) ∧ n + 1 < scanBound ∧ Nx (upd H3 D (SetIO w D (fun j => S j || decide (j = k)) (if S k = true then n else n + 1))))
theorem pe_si {elt tg iter : Expr} {scope : Scope} {own : List (PySem.Str × Nat)} {pos : Pos} {wi : TI} {g : TG} {te : TE} (hc : X.calm = true) (hN : X.N.Nodup) (hi : PI X tg iter wi) (ok : BlkOk X.N X.env.scope scope own)
    (hg : ∀ (s : Shared) (H : Hp) (C : Addr) (cl : List (PySem.Str × Addr)) (fp : List Addr), PG (X.blk s H scope (compEnvC scope cl C X.env) fp) tg g)
    (he : ∀ (s : Shared) (H : Hp) (C : Addr) (cl : List (PySem.Str × Addr)) (fp : List Addr), PE (X.blk s H scope (compEnvC scope cl C X.env) fp) elt te) (hs : ∀ x, foldedSetIterable iter X.env x = pure x) :
    PE X (.SetComp elt [⟨tg, iter, [], 0⟩] scope pos) (tSi X.w wi g te (own.map (·.2))) := by
  refine ⟨fun pins s σ H Q I h => ?_⟩
  rw [PpSet.eval_SetComp]
  have cells : ∀ y ∈ scope.names, y.2 = .free → ∃ c, X.env.cells.lookup y.1 = some c := fun y hy e => I.ok.has _ ((ok.free y hy e).imp id id)
  refine wpAny_comprehension_free (use := none) rfl hs (closure_ok cells) ok.kind (fun y hy e => by rw [ok.uniq y hy, e]) (thn (hi.run pins s σ H _ I h) fun xv s1 hx => thn hx fun itv s2 h2 => ?_)
  obtain ⟨it, fp, tn, J, H2, rfl, I2, T, at0, free2, q⟩ := h2
  refine PpSet.newSet_ok (newEnv_comp ?_)
  obtain ⟨D, hD⟩ : ∃ D, s2.heap.objs.size = D := ⟨_, rfl⟩
  rw [hD]
  obtain ⟨W, ⟨m0, w0⟩, turn⟩ := q D (I2.hok.fresh (Nat.le_of_eq hD))
  -- the new, empty set
  obtain ⟨s3, e3⟩ : ∃ s3 : Shared, ({ s2 with heap := s2.heap.push { cls := .type "set", dict := none, data := .set #[] 0 (.fresh 0 0 (!X.w.params.followText "set-order")) } } : Shared) = s3 := ⟨_, rfl⟩
  obtain ⟨H3, eH⟩ : ∃ H3, upd H2 D (SetIO X.w D (fun _ => false) 0) = H3 := ⟨_, rfl⟩
  have push3 : s3.heap = s2.heap.push { cls := .type "set", dict := none, data := .set #[] 0 (.fresh 0 0 (!X.w.params.followText "set-order")) } := by rw [← e3]
  have I3 : Inv X pins σ H3 s3 := by
    subst e3 eH
    exact I2.laid (t' := s2.toks) (fun b o e => Heap.get?_push_of_some _ e) (Nat.le_of_eq hD) (by rw [← hD]; exact setIO_ok (setR_fresh X.w))
  rw [eH] at w0
  have free3 : ∀ b ∈ fp, FpOk X pins H3 b ∧ b < s3.heap.objs.size := fun b hb => by
    obtain ⟨o, e, _⟩ := T.obj _ _ at0 b hb
    have lt := Heap.lt_size e
    refine ⟨⟨?_, (free2 b hb).2⟩, ?_⟩
    · rw [← eH, upd_ne (fun z => by rw [z, ← hD] at lt; exact Nat.lt_irrefl _ lt)]
      exact (free2 b hb).1
    · rw [push3, Heap.size_push]
      exact Nat.lt_succ_of_lt lt
  have at3 : tn 0 s3.heap := T.keep _ _ _ at0 fun b _ o e => by rw [push3]; exact Heap.get?_push_of_some _ e
  -- the block
  obtain ⟨ce, hce⟩ : ∃ ce, compEnvC scope (cellsFrom (s3.heap.objs.size + 1) scope.names (cloFrom X.env.cells scope.names [])) s3.heap.objs.size X.env = ce := ⟨_, rfl⟩
  have I4 := block_start I3 ok hN free3
  have pg := hg s3 H3 s3.heap.objs.size (cellsFrom (s3.heap.objs.size + 1) scope.names (cloFrom X.env.cells scope.names [])) fp
  have pe := he s3 H3 s3.heap.objs.size (cellsFrom (s3.heap.objs.size + 1) scope.names (cloFrom X.env.cells scope.names [])) fp
  rw [hce] at I4 pg pe
  have loc : ce.locals = s3.heap.objs.size := by rw [← hce]; rfl
  obtain ⟨s4, e4⟩ : ∃ s4 : Shared, ({ s3 with heap := pushCells (s3.heap.push { cls := .type "dict", data := .dict #[] }) scope.names } : Shared) = s4 := ⟨_, rfl⟩
  rw [e4] at I4
  have at4 : tn 0 s4.heap := T.keep _ _ _ at3 fun b _ o e => by rw [← e4]; exact pushCells_keeps _ _ _ _ (Heap.get?_push_of_some _ e)
  have inBlk : ∀ {σ' : L2.St} {H' : Hp} {s' : Shared}, Inv (X.blk s3 H3 scope ce fp) [] σ' H' s' → (∀ b ∈ fp, H' b = none) → ∀ b ∈ fp, FpOk (X.blk s3 H3 scope ce fp) [] H' b := fun {σ' H' s'} J' n b hb =>
    ⟨n b hb, (J'.ok.exf b hb).1, J'.ok.exfs b hb, .inl hb, fun x c e => (J'.ok.exf b hb).2 x c e, fun p hp => by cases (show p ∈ ([] : List (Addr × Obj)) from hp)⟩
  have body : codeAny (model X.prog X.w) X.A (.compLoop (.SetComp elt [⟨tg, iter, [], 0⟩] scope pos) 0 (.ref it) (.ref D) ce) (compPost (model X.prog X.w) X.A X.xe none (EP X pins σ Q) (.ref D) s3.heap.objs.size) s4 := by
    refine PpSet.compLoopS_any (fun n s' => ∃ i H', Inv (X.blk s3 H3 scope ce fp) [] (wipe σ (own.map (·.2))) H' s' ∧ tn i s'.heap ∧ (∀ b ∈ fp, H' b = none) ∧ W i n H') ?_ m0 ⟨0, H3, I4, at4, fun b hb => (free3 b hb).1.1, w0⟩
    rintro n s5 ⟨i, H5, I5, at5, free5, w5⟩
    rcases turn i n H5 w5 with ⟨stop, fin⟩ | ⟨go, Nx, hNx, step⟩
    · refine thnF (T.done (X.blk s3 H3 scope ce fp) rfl rfl rfl hc i [] s5 _ H5 (fun _ _ => False) I5 (inBlk I5 free5) at5 stop) fun r s6 ⟨hr, I6⟩ => ?_
      subst hr
      have I7 : Inv X pins σ H5 s6 := I3.call' (ch := fp) I6.os I6.base I6.hok I6.bare fun b hb => by
        obtain ⟨_, f1, f2, f3, f4, f5⟩ := (free3 b hb).1
        exact ⟨f3, f1, f4, f5⟩
      obtain ⟨m, hn, _⟩ := I6.loc
      have hn' : s6.heap.Ns s3.heap.objs.size m := by
        rw [← loc]
        exact hn
      have noC : H5 s3.heap.objs.size = none := by
        rw [← loc]
        exact I6.free
      obtain ⟨f0, f1, f2, f3, f4, f5⟩ := I3.fpOk (H' := H5) (Nat.le_refl _) noC
      exact ⟨m, hn', fun h'' sb => ⟨.ref D, H5, I7.turned (t' := s6.toks) (fun b o hb e => (sb.2 b hb).trans e) f0 f1 f3 f4 f5, rfl, fin⟩⟩
    · refine thnF (T.item (X.blk s3 H3 scope ce fp) rfl rfl rfl hc i [] s5 _ H5 (fun _ _ => False) I5 (inBlk I5 free5) at5 go) fun r s6 ⟨u, hr, h6⟩ => ?_
      subst hr
      refine thnF h6 fun _ s7 ⟨x, H7, I7, r7, y7, at7, free7⟩ => ?_
      have pin7 := I7.pinned (inBlk I7 free7) (T.obj _ _ at7)
      refine thnF (pg.run _ s7 _ H7 x u _ pin7 r7 (step x H7 y7)) fun _ s8 ⟨σ8, H8, I8, w8, q8⟩ => ?_
      show wpAny _ _ (pure true) _ _ s8
      refine wpAny_pure ?_
      rw [if_pos rfl]
      refine thnF (pe.run _ s8 σ8 H8 _ I8 q8) fun z s9 ⟨yv, H9, I9, r9, k, S, c, ey, hD9, room, nx⟩ => ?_
      subst ey
      obtain ⟨tk, rfl⟩ : ∃ tk, z = .int k tk := r9
      refine setIO_add (X := X.blk s3 H3 scope ce fp) I9 hD9 room fun s10 I10 => ?_
      obtain ⟨m', lt, w'⟩ := hNx _ nx
      have still : ∀ b ∈ fp, ∀ o, s7.heap.get? b = some o → s10.heap.get? b = some o ∧ (upd H9 D (SetIO X.w D (fun j => S j || decide (j = k)) (if S k = true then c else c + 1))) b = none := fun b hb o e => by
        have z := I10.pin (b, o) (List.mem_append_right _ (List.mem_append_right _ (mem_pinsAt hb e)))
        exact ⟨z.1, z.2.1⟩
      refine ⟨m', lt, i + 1, _, (I10.unpinned (pins := [])).weak (by rw [← w8, wipe_length]) (fun j v e => ?_), T.keep _ _ _ at7 fun b hb o e => (still b hb o e).1, fun b hb => ?_, w'⟩
      · rw [← w8] at e
        exact (wipe_some e).1
      · obtain ⟨o, e, _⟩ := T.obj _ _ at7 b hb
        exact (still b hb o e).2
  show codeAny _ _ (.compStart (.SetComp elt [⟨tg, iter, [], 0⟩] scope pos) 0 (.ref it) (.ref D) (compEnvC scope (cellsFrom (({ s2 with heap := s2.heap.push { cls := .type "set", dict := none, data := .set #[] 0 (.fresh 0 0 (!X.w.params.followText "set-order")) } } : Shared).heap.objs.size + 1) scope.names (cloFrom X.env.cells scope.names [])) ({ s2 with heap := s2.heap.push { cls := .type "set", dict := none, data := .set #[] 0 (.fresh 0 0 (!X.w.params.followText "set-order")) } } : Shared).heap.objs.size X.env)) (compPost (model X.prog X.w) X.A X.xe none (EP X pins σ Q) (.ref D) ({ s2 with heap := s2.heap.push { cls := .type "set", dict := none, data := .set #[] 0 (.fresh 0 0 (!X.w.params.followText "set-order")) } } : Shared).heap.objs.size) _
  rw [e3, e4, hce]
  exact PpSet.codeAny_compStart_set body (T.self X.A 0 _ _ _ at4 body)
end
end EF

set_option Elab.async false
set_option linter.all false
set_option maxRecDepth 100000
set_option maxHeartbeats 2000000
/-! EF23: how many ints a set comprehension holds, by data. -/
namespace EF
open PySem PySem.Spec PyProof.Rows L2
section
variable {H H' : Hp} {cs : CS} {D : Addr} {o1 : HO}
/-- data stay as they are when an object changes that is no data -/
def NoD : HO → Prop
  | .lst _ => False
  | .tup _ => False
  | .dK _ => False
  | .dT _ => False
  | .frz _ _ => False
  | _ => True
mutual
theorem Dq.off (h : ∀ a o, H a = some o → ¬ NoD o → H' a = some o) : ∀ {v : V} {d : PyData}, Dq H cs v d → Dq H' cs v d
  | _, _, .non => .non
  | _, _, .bl b => .bl b
  | _, _, .int i => .int i
  | _, _, .str x => .str x
  | _, _, .lst e l r => .lst (h _ _ e id) l (DqAll.off h r)
  | _, _, .tup e l r => .tup (h _ _ e id) l (DqAll.off h r)
  | _, _, .dic e l r => .dic (h _ _ e id) l (DqKv.off h r)
theorem DqAll.off (h : ∀ a o, H a = some o → ¬ NoD o → H' a = some o) : ∀ {vs : List V} {ds : List PyData}, DqAll H cs vs ds → DqAll H' cs vs ds
  | _, _, .nil => .nil
  | _, _, .cons a b => .cons (Dq.off h a) (DqAll.off h b)
theorem DqKv.off (h : ∀ a o, H a = some o → ¬ NoD o → H' a = some o) : ∀ {vs : List (L2.Key × V)} {ds : List (PyData × PyData)}, DqKv H cs vs ds → DqKv H' cs vs ds
  | _, _, .nil => .nil
  | _, _, .int a b => .int (Dq.off h a) (DqKv.off h b)
  | _, _, .str a b => .str (Dq.off h a) (DqKv.off h b)
end
theorem StoOk.off {st : Sto} (h : ∀ a o, H a = some o → ¬ NoD o → H' a = some o) (s : StoOk H cs st) : StoOk H' cs st :=
  ⟨s.len, fun n a e => by
    obtain ⟨xs, ds, q1, q2, q3⟩ := s.at_ n a e
    exact ⟨xs, ds, h _ _ q1 id, q2, q3.off h⟩, s.has, s.inj, fun a m => by
    obtain ⟨q1, xs, q2⟩ := s.res a m
    exact ⟨q1, xs, h _ _ q2 id⟩⟩
theorem off_upd {o : HO} (h : H D = some o1) (n : NoD o1) : ∀ a o', H a = some o' → ¬ NoD o' → upd H D o a = some o' := fun a o' e m => by
  by_cases z : a = D
  · rw [z, h] at e
    cases e
    exact (m n).elim
  · rw [upd_ne z]
    exact e
end
/-- how many -/
def cntI : (Int → Bool) → Nat → List Int → Nat
  | _, n, [] => n
  | S, n, k :: ks => cntI (fun j => S j || decide (j = k)) (if S k = true then n else n + 1) ks
theorem cntI_le : ∀ (S : Int → Bool) (n : Nat) (ks : List Int), cntI S n ks ≤ n + ks.length
  | S, n, [] => Nat.le_refl _
  | S, n, k :: ks => by
    unfold cntI
    rw [List.length_cons]
    by_cases hk : S k = true
    · rw [if_pos hk]
      have h := cntI_le (fun j => S j || decide (j = k)) n ks
      omega
    · rw [if_neg hk]
      have h := cntI_le (fun j => S j || decide (j = k)) (n + 1) ks
      omega
def intsD : List PyData → Option (List Int)
  | [] => some []
  | .int i :: ds => (intsD ds).map (i :: ·)
  | _ => none
def lenIs (ds : List PyData) : Option PyData := match intsD ds with
  | some ns => if ns.length ≤ 1000 then some (.int (cntI (fun _ => false) 0 ns : Nat)) else none
  | none => none
theorem lenIs_some {ds : List PyData} {d : PyData} (h : lenIs ds = some d) : ∃ ns, intsD ds = some ns ∧ ns.length ≤ 1000 ∧ d = .int (cntI (fun _ => false) 0 ns : Nat) := by
  unfold lenIs at h
  cases e : intsD ds with
  | none => rw [e] at h; cases h
  | some ns =>
    rw [e] at h
    have h' : (if ns.length ≤ 1000 then some (PyData.int (cntI (fun _ => false) 0 ns : Nat)) else none) = some d := h
    split at h'
    · rename_i q
      cases h'
      exact ⟨ns, rfl, q, rfl⟩
    · cases h'
noncomputable def slenX (it : XI) (g : G) (elt : XE) (vs : List Nat) : XE := fun ρ => do
  let ds ← lcF it g (fun _ => pure true) elt vs ρ
  ofOpt (lenIs ds)
def tSd (K : PySem.W.Frag) (w : World) (f : Rho → M (List PyData)) : TE := fun σ H Q => ∃ ρ cs st ds ns st', Slots K σ H ρ cs ∧ StoOk H cs st ∧ f ρ st = some (ds, st') ∧ intsD ds = some ns ∧ ns.length ≤ 1000 ∧
  ∀ D S H' cs', Ext H cs H' cs' → StoOk H' cs' st' → H' D = some (SetIO w D S (cntI (fun _ => false) 0 ns)) → Q (.ref D) H'
theorem sc_ok {K : PySem.W.Frag} {w : World} {it : XI} {g : G} {elt : XE} {vs : List Nat} {σ : L2.St} {H : Hp} {Q : VK} (hg : ∀ i ∈ g.is, i ∈ vs) (h : tSd K w (lcF it g (fun _ => pure true) elt vs) σ H Q) :
    tSi w (tI K it) (tG K g) (tE K elt) vs σ H Q := by
  obtain ⟨ρ, cs, st, ys, ns, st', sl, so, e, en, hn, kk⟩ := h
  obtain ⟨⟨ds, gd⟩, s1, e1, e2⟩ := bind_some e
  split at e2
  case isFalse => exact (fail_some e2).elim
  rename_i hf
  refine ⟨ρ, cs, st, ds, gd, s1, sl, so, e1, fun J H1 c1 GG x1 so1 wk hG D hD => ?_⟩
  refine ⟨fun i m Hc => m = ds.length - i ∧ i ≤ ds.length ∧ ∃ (ci : CS) (si : Sto) (S : Int → Bool) (n : Nat) (rest : List PyData) (rn : List Int), Ext H1 c1 Hc ci ∧ StoOk Hc ci si ∧ Hc D = some (SetIO w D S n) ∧ n + rn.length ≤ 1000 ∧
      compGo gd g (fun _ => pure true) elt (wipeR ρ vs) (ds.drop i) si = some (rest, st') ∧ intsD rest = some rn ∧ cntI S n rn = cntI (fun _ => false) 0 ns,
    ⟨ds.length, rfl, Nat.zero_le _, c1, s1, _, 0, ys, ns, Ext.same (same_new hD), so1.same (same_new hD), upd_same, by omega, e2, en, rfl⟩, ?_⟩
  rintro i m Hc ⟨rfl, hi, ci, si, S, n, rest, rn, x2, so2, hDc, hnn, ec, er, ecn⟩
  have gd2 := compGo_gd ec
  have hGc : GG Hc ci := wk.stay _ _ _ _ hG x2.frm
  have nl : ∀ {H' : Hp} {c' : CS} {s' : Sto} {S' : Int → Bool} {n' : Nat}, StoOk H' c' s' → H' D = some (SetIO w D S' n') → some D ∉ c'.c := fun so' e' q => by
    obtain ⟨j, ej⟩ := List.getElem?_of_mem q
    obtain ⟨xs, _, z, _⟩ := so'.at_ j D ej
    rw [e'] at z
    cases z
  by_cases hlt : i < ds.length
  · have ed : ds.drop i = ds[i] :: ds.drop (i + 1) := List.drop_eq_getElem_cons hlt
    rw [ed] at ec
    obtain ⟨ρ1, b, s3, ep, et, eb⟩ := compGo_cons ec
    have et' : (pure true : M Bool) si = some (b, s3) := et
    obtain ⟨rfl, rfl⟩ := pure_some et'
    rcases eb with ⟨_, z, s5, r, ez, egr, rfl⟩ | ⟨q, _⟩
    · obtain ⟨kz, rr, rfl, rfl, err⟩ : ∃ kz rr, z = .int kz ∧ rn = kz :: rr ∧ intsD r = some rr := by
        cases z with
        | int kz =>
          have er' : (intsD r).map (kz :: ·) = some rn := er
          cases q : intsD r with
          | none => rw [q] at er'; cases er'
          | some rr => rw [q] at er'; cases er'; exact ⟨kz, rr, rfl, rfl, rfl⟩
        | _ => cases er
      refine .inr ⟨wk.go i Hc ci si hlt hGc so2 gd2, fun Hn => i + 1 ≤ ds.length ∧ ∃ (ci : CS) (si : Sto) (S : Int → Bool) (n : Nat) (rest : List PyData) (rn : List Int), Ext H1 c1 Hn ci ∧ StoOk Hn ci si ∧ Hn D = some (SetIO w D S n) ∧ n + rn.length ≤ 1000 ∧
        compGo gd g (fun _ => pure true) elt (wipeR ρ vs) (ds.drop (i + 1)) si = some (rest, st') ∧ intsD rest = some rn ∧ cntI S n rn = cntI (fun _ => false) 0 ns, fun H' hn' => ⟨ds.length - (i + 1), by omega, rfl, hn'⟩, fun x H' y => ?_⟩
      obtain ⟨sm, d, hd, qd⟩ := wk.yld i Hc ci si x H' hlt hGc so2 gd2 y
      obtain rfl : d = ds[i] := by
        rw [List.getElem?_eq_getElem hlt] at hd
        exact (Option.some.inj hd).symm
      have so3 := so2.same sm
      have x3 : Ext H1 c1 H' ci := x2.trans (Ext.same sm)
      have slw : Slots K (L2.wipe σ vs) H' (wipeR ρ vs) ci := x3.slots so1.lv (x1.slots so.lv (sl.wipe vs))
      refine ⟨wipeR ρ vs, ci, _, ρ1, slw, so3.lv, qd, ep, fun σ' sl' hw => ⟨?_, ρ1, ci, si, .int kz, s5, sl', so3, ez, fun v H4 c4 x4 so4 q4 => ?_⟩⟩
      · rw [hw vs hg]
        exact wipe_idem σ vs
      · have hD3 : H' D = some (SetIO w D S n) := sm _ _ hDc
        have hD4 : H4 D = some (SetIO w D S n) := x4.keep D _ hD3 (nl so3 hD3)
        rw [List.length_cons] at hnn
        have nD : NoD (SetIO w D S n) := trivial
        refine ⟨kz, S, n, dq_int q4, hD4, by unfold scanBound; omega, by omega, c4, s5, _, _, r, rr, ?_, so4.off (off_upd hD4 nD), upd_same, by split <;> omega, egr, err, ecn⟩
        have x5 : Ext H1 c1 H4 c4 := x3.trans x4
        refine ⟨fun a o h l => ?_, x5.new, x5.res, x5.len, x5.old, fun a o h => ?_⟩
        · rw [upd_ne (ne_of_none h hD)]
          exact x5.keep a o h l
        · rw [upd_ne (ne_of_none h hD)]
          exact x5.there a o h
    · cases q
  · have ei : i = ds.length := by omega
    subst ei
    rw [List.drop_length] at ec
    obtain ⟨rfl, rfl⟩ := compGo_nil ec
    cases er
    have ecn' : n = cntI (fun _ => false) 0 ns := ecn
    rw [ecn'] at hDc
    exact .inl ⟨wk.stop Hc ci _ hGc so2 gd2, kk D S Hc ci (x1.trans x2) so2 hDc⟩
section
variable {X : Cx}
theorem cr_lenSI : CallR X (.builtin "len") (fun xs H Q => ∃ a S n, xs = [.ref a] ∧ H a = some (SetIO X.w a S n) ∧ n ≤ 1000 ∧ Q (.int (n : Nat)) H) := by
  rintro pins s σ H xs us Q I r ⟨a, S, n, rfl, e, hn, q⟩
  rw [Vals.ref1 r]
  obtain ⟨o, es, ep, t, ho, hex, hd, _, _, _, _, hf, hsz, _⟩ := setIO_at I e
  refine call_len_set ho hex hd hf (by rw [hsz]; omega) ⟨.int n, H, I.tok _, ⟨_, by rw [hsz]⟩, q⟩
theorem s_slen {elt tg iter : Expr} {scope : Scope} {own : List (PySem.Str × Nat)} {cpos pos p : Pos} {it : XI} {g : G} {f : XE} (hc : X.calm = true) (hN : X.N.Nodup) (hgl : Gl X "len") (hm : X.mg "len" = none) (hi : PI X tg iter (tI X.K it)) (ok : BlkOk X.N X.env.scope scope own)
    (hgi : ∀ i ∈ g.is, i ∈ own.map (·.2)) (hg : ∀ (s : Shared) (H : Hp) (C : Addr) (cl : List (PySem.Str × Addr)) (fp : List Addr), PG (X.blk s H scope (compEnvC scope cl C X.env) fp) tg (tG X.K g))
    (he : ∀ (s : Shared) (H : Hp) (C : Addr) (cl : List (PySem.Str × Addr)) (fp : List Addr), PE (X.blk s H scope (compEnvC scope cl C X.env) fp) elt (tE X.K f)) (hs : ∀ x, foldedSetIterable iter X.env x = pure x) :
    PE X (.Call (.Name "len" p) [.SetComp elt [⟨tg, iter, [], 0⟩] scope cpos] [] pos) (tE X.K (slenX it g f (own.map (·.2)))) :=
  (pe_callB cr_lenSI hgl hm PySem.boot_len (pa_cons (pe_si hc hN hi ok hg he hs) pa_nil rfl) (by decide) (by decide) rfl rfl).imp fun σ H Q ⟨ρ, cs, st, d, st', sl, so, e, k⟩ => by
    obtain ⟨ds, s1, e1, e2⟩ := bind_some e
    obtain ⟨e3, rfl⟩ := ofOpt_some e2
    obtain ⟨ns, en, hn, rfl⟩ := lenIs_some e3
    show tSi X.w (tI X.K it) (tG X.K g) (tE X.K f) (own.map (·.2)) σ H (fun x H1 => ∃ a S n, [x] = [V.ref a] ∧ H1 a = some (SetIO X.w a S n) ∧ n ≤ 1000 ∧ Q (.int (n : Nat)) H1)
    refine sc_ok hgi ⟨ρ, cs, st, ds, ns, s1, sl, so, e1, en, hn, fun D S H' cs' x so' hD => ?_⟩
    have l := cntI_le (fun _ => false) 0 ns
    exact ⟨D, S, _, rfl, hD, by omega, k _ H' cs' x so' (.int _)⟩
end
end EF

set_option Elab.async false
set_option linter.all false
set_option maxRecDepth 100000
set_option maxHeartbeats 2000000
/-! EF24: list.pop at a place, len of a set of a list. -/
namespace EF
open PySem PySem.Spec PyProof.Rows L2
section
variable {X : Cx} {pos : Pos}
theorem DqAll.erase {H : Hp} {cs : CS} : ∀ {xs : List V} {ds : List PyData}, DqAll H cs xs ds → ∀ m : Nat, DqAll H cs (xs.eraseIdx m) (ds.eraseIdx m)
  | _, _, .nil, m => by simp only [List.eraseIdx_nil]; exact .nil
  | _, _, .cons a b, 0 => b
  | _, _, .cons a b, m + 1 => .cons a (DqAll.erase b m)
def popIx (ds : List PyData) : PyData → Option Nat
  | .int j => if ds.length ≤ 1000000 then ixN ds.length j else none
  | _ => none
/-- x.pop(e) -/
def popX (i : Nat) (f : XE) : XE := fun ρ => do
  let n ← cellNo i ρ
  let _ ← getM n
  let y ← f ρ
  let ds ← getM n
  let m ← ofOpt (popIx ds y)
  let z ← ofOpt ds[m]?
  putM n (ds.eraseIdx m)
  pure z
theorem s_pop {i : Nat} {o e : Expr} {apos : Pos} {f : XE} (h : PE X (.Call (.Attribute o "pop" apos) [e] [] pos) (tBM X.K "list" rPopAt (tVar i) (tA X.K (consX f nilX)))) :
    PE X (.Call (.Attribute o "pop" apos) [e] [] pos) (tE X.K (popX i f)) := h.imp fun σ H Q ⟨ρ, cs, st, d, st', sl, so, ev, k⟩ => by
  obtain ⟨n, s0, e2, ev⟩ := bind_some ev
  obtain ⟨hi, rfl⟩ := cellNo_some e2
  obtain ⟨ds0, s0, e0, ev⟩ := bind_some ev
  obtain ⟨hd0, rfl⟩ := getM_some e0
  obtain ⟨y, s1, e1, ev⟩ := bind_some ev
  obtain ⟨ds, s3, e3, ev⟩ := bind_some ev
  obtain ⟨hd, rfl⟩ := getM_some e3
  obtain ⟨m, s4, e4, ev⟩ := bind_some ev
  obtain ⟨hm, rfl⟩ := ofOpt_some e4
  obtain ⟨z, s5, e5, ev⟩ := bind_some ev
  obtain ⟨hz, rfl⟩ := ofOpt_some e5
  obtain ⟨u, s6, e6, ev⟩ := bind_some ev
  cases e6
  obtain ⟨rfl, rfl⟩ := pure_some ev
  obtain ⟨a, xs0, ea, _, hq0, _⟩ := cell_at sl so hi hd0
  refine ⟨_, ea, .inl ⟨rfl, xs0, SqL.of hq0⟩, ρ, cs, st, [y], s1, sl, so, one_arg e1, fun vs H1 c1 x1 so1 q1 => ?_⟩
  cases q1 with
  | cons qa qb =>
    cases qb
    cases y with
    | int j =>
      obtain ⟨b, ys, eb, hc, hH, r⟩ := cell_at (x1.slots so.lv sl) so1 hi hd
      rw [ea] at eb
      cases eb
      have hl := r.length
      have hb := (so1.lv a (.inl (List.mem_of_getElem? hc)))
      obtain ⟨w, hw, qw⟩ := r.get hz
      have hm' : (if ds.length ≤ 1000000 then ixN ds.length j else none) = some m := hm
      have hsz : ds.length ≤ 1000000 := by
        by_cases q : ds.length ≤ 1000000
        · exact q
        · rw [if_neg q] at hm'
          cases hm'
      rw [if_pos hsz] at hm'
      obtain ⟨h1, h2, h3, h4⟩ := ixN_seq hm'
      obtain ⟨x2, so2⟩ := put_ok so1 hc (r.erase m)
      exact ⟨a, ys, j, m, w, rfl, by rw [dq_int qa], hH, by omega, by omega, by rw [hl]; exact h1, hw, k w _ c1 (x1.trans x2) so2 (x2.dq qw)⟩
    | _ => cases hm
/-! ### len(set(e)) of a list of ints -/
def metN (ns : List Int) : Nat := (firstMet (fun i => ns.getD i 0) ns.length).length
def lensD : PyData → Option PyData
  | .list ds => (intsD ds).bind fun ns => if ns.length ≤ 1000 then some (.int (metN ns : Nat)) else none
  | _ => none
theorem intsD_map : ∀ {ds : List PyData} {ns : List Int}, intsD ds = some ns → ds = ns.map .int
  | [], ns, h => by cases h; rfl
  | d :: ds, ns, h => by
    cases d with
    | int i =>
      have h' : (intsD ds).map (i :: ·) = some ns := h
      cases q : intsD ds with
      | none => rw [q] at h'; cases h'
      | some r =>
        rw [q] at h'
        cases h'
        rw [intsD_map q]
        rfl
    | _ => cases h
theorem ints_vs {H : Hp} {cs : CS} : ∀ {xs : List V} {ns : List Int}, DqAll H cs xs (ns.map .int) → xs = ns.map V.int
  | xs, [], r => by cases r; rfl
  | xs, n :: ns, r => by
    cases r with
    | cons a b => rw [dq_int a, ints_vs b]; rfl
def tLens (K : PySem.W.Frag) (ta : TE) : TE := fun σ H Q => ta σ H fun x H1 => ∃ (l : Addr) (ns : List Int), x = V.ref l ∧ SqL K H1 l (ns.map V.int) ∧ ns.length ≤ 1000 ∧ Q (.int (metN ns : Nat)) H1
theorem pe_lens {a : Expr} {ta : TE} {p p2 q : Pos} (hc : X.calm = true) (hg : Gl X "len") (hm : X.mg "len" = none) (hg2 : Gl X "set") (hm2 : X.mg "set" = none) (ha : PE X a ta) (na : starEach [a] X.env = (false, eval a X.env) :: starEach [] X.env) :
    PE X (.Call (.Name "len" p) [.Call (.Name "set" p2) [a] [] q] [] pos) (tLens X.K ta) := ⟨fun pins s σ H Q I h => by
  refine Call_ (ld_blt I hg hm PySem.boot_len (PyProof.Rows.callWith_builtin1 (PyProof.Rows.args_cons ?_ rfl) rfl rfl))
  refine Call_ (ld_blt I hg2 hm2 PyProof.Rows.boot_set (PyProof.Rows.callWith_type1 (PyProof.Rows.args_cons (thn (ha.run pins s σ H _ I h) fun v s1 ⟨x, H1, J, r, q1⟩ => PyProof.Rows.args_nil ?_) na) na rfl))
  obtain ⟨l, ns, rfl, sq, small, q1⟩ := q1
  cases r
  obtain ⟨its, rv, pl, _⟩ := J.list sq
  have size : its.toArray.size = ns.length := by rw [List.size_toArray, ← rv.length, List.length_map]
  refine call_set_list (J.ok.hd hc) pl.isList (ns := ns) (by simpa using rv.ints) (by unfold scanBound; omega) fun h' tk new old => PyProof.Rows.args_nil ?_
  rw [size] at new
  have bound := PyProof.Rows.firstMet_length_le (fun i => ns.getD i 0) ns.length
  obtain ⟨o, es, ep, t, e1, e2, e3, _, _, _, e4, e5⟩ := new
  have J2 : Inv X pins σ H1 { s1 with heap := h', toks := tk } := J.kept fun b o e => old b o (Heap.lt_size e) e
  exact call_len_set e1 e2 e3 e4 (by rw [e5]; omega) ⟨.int (metN ns : Nat), H1, J2.tok _, ⟨_, by rw [e5]; rfl⟩, q1⟩⟩
theorem s_lens {a : Expr} {f : XE} {p p2 q : Pos} (hc : X.calm = true) (hg : Gl X "len") (hm : X.mg "len" = none) (hg2 : Gl X "set") (hm2 : X.mg "set" = none) (ha : PE X a (tR X.K f)) (na : starEach [a] X.env = (false, eval a X.env) :: starEach [] X.env) :
    PE X (.Call (.Name "len" p) [.Call (.Name "set" p2) [a] [] q] [] pos) (tE X.K (un1 lensD f)) := (pe_lens hc hg hm hg2 hm2 ha na).imp fun σ H Q ⟨ρ, cs, st, d, st', sl, so, ev, k⟩ => by
  obtain ⟨y, s1, e1, e2⟩ := bind_some ev
  obtain ⟨e3, rfl⟩ := ofOpt_some e2
  refine ⟨ρ, cs, st, y, s1, sl, so, e1, fun v H1 c1 x1 so1 q1 => ?_⟩
  cases y with
  | list ds =>
    have e4 : ((intsD ds).bind fun ns => if ns.length ≤ 1000 then some (PyData.int (metN ns : Nat)) else none) = some d := e3
    cases en : intsD ds with
    | none => rw [en] at e4; cases e4
    | some ns =>
      rw [en] at e4
      have e5 : (if ns.length ≤ 1000 then some (PyData.int (metN ns : Nat)) else none) = some d := e4
      split at e5
      · rename_i hs
        cases e5
        obtain ⟨b, xs, rfl, sq, r⟩ := dq_list q1
        rw [intsD_map en] at r
        rw [ints_vs r] at sq
        exact ⟨b, ns, rfl, sq, hs, k _ H1 c1 x1 so1 (.int _)⟩
      · cases e5
  | _ => cases e3
end
end EF

set_option Elab.async false
set_option linter.all false
set_option maxRecDepth 100000
set_option maxHeartbeats 2000000
/-! EF25: sorted(set(e)) of a list of pairs of small ints. -/
namespace EF
open PySem PySem.Spec PyProof.Rows L2
def lt2 (p q : Int × Int) : Bool := decide (p.1 < q.1) || (decide (p.1 = q.1) && decide (p.2 < q.2))
theorem lt2_iff {p q : Int × Int} : lt2 p q = true ↔ p.1 < q.1 ∨ (p.1 = q.1 ∧ p.2 < q.2) := by
  unfold lt2
  simp
/-- p put where it belongs, once -/
def ins2 (p : Int × Int) : List (Int × Int) → List (Int × Int)
  | [] => [p]
  | q :: r => if lt2 p q = true then p :: q :: r else if p = q then q :: r else q :: ins2 p r
def srt2 : List (Int × Int) → List (Int × Int)
  | [] => []
  | p :: r => ins2 p (srt2 r)
theorem mem_ins2 {p x : Int × Int} : ∀ {l : List (Int × Int)}, x ∈ ins2 p l ↔ x = p ∨ x ∈ l
  | [] => by simp [ins2]
  | q :: r => by
    unfold ins2
    split
    · simp
    · split
      · rename_i e
        subst e
        simp
      · simp only [List.mem_cons]
        rw [mem_ins2]
        constructor
        · rintro (h | h | h)
          · exact .inr (.inl h)
          · exact .inl h
          · exact .inr (.inr h)
        · rintro (h | h | h)
          · exact .inr (.inl h)
          · exact .inl h
          · exact .inr (.inr h)
theorem mem_srt2 {x : Int × Int} : ∀ {l : List (Int × Int)}, x ∈ srt2 l ↔ x ∈ l
  | [] => Iff.rfl
  | p :: r => by
    unfold srt2
    rw [mem_ins2, mem_srt2, List.mem_cons]
theorem ins2_rise {p : Int × Int} : ∀ {l : List (Int × Int)}, l.Pairwise (fun a b => lt2 a b = true) → (ins2 p l).Pairwise (fun a b => lt2 a b = true)
  | [], _ => by simp [ins2]
  | q :: r, h => by
    obtain ⟨h1, h2⟩ := List.pairwise_cons.mp h
    unfold ins2
    split
    · rename_i e
      refine List.pairwise_cons.mpr ⟨fun x hx => ?_, h⟩
      rcases List.mem_cons.mp hx with rfl | hx
      · exact e
      · have a := lt2_iff.mp e
        have b := lt2_iff.mp (h1 x hx)
        exact lt2_iff.mpr (by omega)
    · split
      · exact h
      · rename_i n1 n2
        refine List.pairwise_cons.mpr ⟨fun x hx => ?_, ins2_rise h2⟩
        rcases mem_ins2.mp hx with rfl | hx
        · have a : ¬ (x.1 < q.1 ∨ (x.1 = q.1 ∧ x.2 < q.2)) := fun z => n1 (lt2_iff.mpr z)
          have b : ¬ (x.1 = q.1 ∧ x.2 = q.2) := fun z => n2 (Prod.ext z.1 z.2)
          exact lt2_iff.mpr (by omega)
        · exact h1 x hx
theorem srt2_rise : ∀ {l : List (Int × Int)}, (srt2 l).Pairwise (fun a b => lt2 a b = true)
  | [] => List.Pairwise.nil
  | p :: r => ins2_rise srt2_rise
/-- rising lists with the same members are the same -/
theorem rise_eq : ∀ {a b : List (Int × Int)}, a.Pairwise (fun a b => lt2 a b = true) → b.Pairwise (fun a b => lt2 a b = true) → (∀ x, x ∈ a ↔ x ∈ b) → a = b
  | [], [], _, _, _ => rfl
  | [], y :: b, _, _, h => by cases (h y).mpr List.mem_cons_self
  | x :: a, [], _, _, h => by cases (h x).mp List.mem_cons_self
  | x :: a, y :: b, ha, hb, h => by
    obtain ⟨a1, a2⟩ := List.pairwise_cons.mp ha
    obtain ⟨b1, b2⟩ := List.pairwise_cons.mp hb
    have irr : ∀ z : Int × Int, ¬ lt2 z z = true := fun z q => by
      have := lt2_iff.mp q
      omega
    have e : x = y := by
      rcases List.mem_cons.mp ((h x).mp List.mem_cons_self) with q | q
      · exact q
      · rcases List.mem_cons.mp ((h y).mpr List.mem_cons_self) with q2 | q2
        · exact q2.symm
        · have u := lt2_iff.mp (b1 x q)
          have v := lt2_iff.mp (a1 y q2)
          omega
    subst e
    congr 1
    refine rise_eq a2 b2 fun z => ⟨fun hz => ?_, fun hz => ?_⟩
    · rcases List.mem_cons.mp ((h z).mp (List.mem_cons_of_mem _ hz)) with q | q
      · subst q
        exact absurd (a1 z hz) (irr z)
      · exact q
    · rcases List.mem_cons.mp ((h z).mpr (List.mem_cons_of_mem _ hz)) with q | q
      · subst q
        exact absurd (b1 z hz) (irr z)
      · exact q
def pairD (p : Int × Int) : PyData := .tuple [.int p.1, .int p.2]
def small2 (p : Int × Int) : Bool := decide (0 ≤ p.1 ∧ p.1 < 64 ∧ 0 ≤ p.2 ∧ p.2 < 64)
def pairsD : List PyData → Option (List (Int × Int))
  | [] => some []
  | .tuple [.int x, .int y] :: ds => (pairsD ds).bind fun ps => if small2 (x, y) = true then some ((x, y) :: ps) else none
  | _ => none
theorem pairsD_some : ∀ {ds : List PyData} {ps : List (Int × Int)}, pairsD ds = some ps → ds = ps.map pairD ∧ ∀ p ∈ ps, small2 p = true
  | [], ps, h => by
    cases h
    exact ⟨rfl, fun _ m => by cases m⟩
  | d :: ds, ps, h => by
    unfold pairsD at h
    split at h
    · cases ‹_ :: _ = []›
    · rename_i x y ds' e
      cases e
      cases q : pairsD ds with
      | none => rw [q] at h; cases h
      | some r =>
        rw [q] at h
        have h' : (if small2 (x, y) = true then some ((x, y) :: r) else none) = some ps := h
        split at h'
        · rename_i sm
          cases h'
          obtain ⟨e1, e2⟩ := pairsD_some q
          refine ⟨by rw [e1]; rfl, fun p m => ?_⟩
          rcases List.mem_cons.mp m with rfl | m
          · exact sm
          · exact e2 p m
        · cases h'
    · cases h
def sst2D : PyData → Option PyData
  | .list ds => (pairsD ds).bind fun ps => if ps.length < 64 then some (.list ((srt2 ps).map pairD)) else none
  | _ => none
section
variable {X : Cx}
theorem pairs_at {K : PySem.W.Frag} {H : Hp} {cs : CS} : ∀ {xs : List V} {ps : List (Int × Int)}, DqAll H cs xs (ps.map pairD) → ∃ ks : List (Addr × List Int), xs = ks.map (fun k => V.ref k.1) ∧ ks.map (·.2) = ps.map (fun p => [p.1, p.2]) ∧
    ∀ k ∈ ks, SqT K H k.1 (k.2.map V.int) ∧ Dq H cs (.ref k.1) (.tuple (k.2.map .int))
  | xs, [], r => by
    cases r
    exact ⟨[], rfl, rfl, fun _ m => by cases m⟩
  | xs, p :: ps, r => by
    cases r with
    | cons a b =>
      obtain ⟨ks, rfl, e2, e3⟩ := pairs_at (K := K) b
      have a0 := a
      cases a with
      | tup e l rr =>
        rename_i t ys
        refine ⟨(t, [p.1, p.2]) :: ks, rfl, by rw [List.map_cons, List.map_cons, e2], fun k m => ?_⟩
        rcases List.mem_cons.mp m with rfl | m
        · refine ⟨?_, a0⟩
          have z : ys = [V.int p.1, V.int p.2] := ints_vs (ns := [p.1, p.2]) rr
          rw [z] at e
          exact SqT.of e
        · exact e3 k m
theorem prs_rise : ∀ {L : List (Addr × List Int)}, (∀ q ∈ L, ∃ p : Int × Int, q.2 = [p.1, p.2] ∧ small2 p = true) → (L.map (·.2)).Nodup → L.Pairwise (fun q r => TS.code 64 q.2 ≤ TS.code 64 r.2) →
    ∃ ps : List (Int × Int), L.map (·.2) = ps.map (fun p => [p.1, p.2]) ∧ ps.Pairwise (fun a b => lt2 a b = true)
  | [], _, _, _ => ⟨[], rfl, List.Pairwise.nil⟩
  | q :: L, h, nd, rise => by
    obtain ⟨p, e, sm⟩ := h q List.mem_cons_self
    rw [List.map_cons] at nd
    obtain ⟨n1, n2⟩ := List.nodup_cons.mp nd
    obtain ⟨r1, r2⟩ := List.pairwise_cons.mp rise
    obtain ⟨ps, e2, e3⟩ := prs_rise (fun x m => h x (List.mem_cons_of_mem _ m)) n2 r2
    refine ⟨p :: ps, by rw [List.map_cons, List.map_cons, e2, e], List.pairwise_cons.mpr ⟨fun p' hp' => ?_, e3⟩⟩
    have m : [p'.1, p'.2] ∈ L.map (·.2) := by rw [e2]; exact List.mem_map.mpr ⟨p', hp', rfl⟩
    obtain ⟨q', hq', e4⟩ := List.mem_map.mp m
    have le := r1 q' hq'
    obtain ⟨p2, e5, sm2⟩ := h q' (List.mem_cons_of_mem _ hq')
    have e6 : [p'.1, p'.2] = [p2.1, p2.2] := e4.symm.trans e5
    simp only [List.cons.injEq, and_true] at e6
    have ne : q.2 ≠ q'.2 := fun z => n1 (by rw [z]; exact List.mem_map_of_mem hq')
    have b1 := of_decide_eq_true sm
    have b2 := of_decide_eq_true sm2
    have e4' : q'.2 = [p'.1, p'.2] := e4
    rw [e, e4'] at le ne
    exact lt2_iff.mpr (pair_lt le ne ⟨b1.1, b1.2.1⟩ ⟨b1.2.2.1, b1.2.2.2⟩ (by omega) (by omega))
theorem seqT_same {K : PySem.W.Frag} {H H' : Hp} {t : Addr} {xs : List V} (s : Same H H') (h : SqT K H t xs) : SqT K H' t xs := h.imp (fun z => z.imp (fun q => s _ _ q) fun ⟨o, q⟩ => ⟨o, s _ _ q⟩) id
theorem dq_refs {H : Hp} {cs : CS} : ∀ {L : List (Addr × List Int)}, (∀ k ∈ L, Dq H cs (.ref k.1) (.tuple (k.2.map .int))) → DqAll H cs (L.map fun k => V.ref k.1) (L.map fun k => PyData.tuple (k.2.map .int))
  | [], _ => .nil
  | k :: L, h => .cons (h k List.mem_cons_self) (dq_refs fun x m => h x (List.mem_cons_of_mem _ m))
theorem s_sst2 {a : Expr} {f : XE} {p p2 q pos : Pos} (hc : X.calm = true) (hu : X.A.units + 64 < cLine) (hg : Gl X "sorted") (hm : X.mg "sorted" = none) (hg2 : Gl X "set") (hm2 : X.mg "set" = none) (ha : PE X a (tR X.K f)) (na : starEach [a] X.env = (false, eval a X.env) :: starEach [] X.env) :
    PE X (.Call (.Name "sorted" p) [.Call (.Name "set" p2) [a] [] q] [] pos) (tE X.K (un1 sst2D f)) :=
  (pe_callB (cr_sortedT hc) hg hm (by kernel_rfl) (pa_cons (pe_callTy (cr_setOfT hc hu) hg2 hm2 PyProof.Rows.boot_set (pa_cons ha pa_nil na) (by decide) (by decide) na rfl) pa_nil rfl) (by decide) (by decide) rfl rfl).imp fun σ H Q ⟨ρ, cs, st, d, st', sl, so, ev, k⟩ => by
    obtain ⟨y, s1, e1, e2⟩ := bind_some ev
    obtain ⟨e3, rfl⟩ := ofOpt_some e2
    refine ⟨ρ, cs, st, y, s1, sl, so, e1, fun v H1 c1 x1 so1 q1 => ?_⟩
    cases y with
    | list ds =>
      have e4 : ((pairsD ds).bind fun ps => if ps.length < 64 then some (PyData.list ((srt2 ps).map pairD)) else none) = some d := e3
      cases en : pairsD ds with
      | none => rw [en] at e4; cases e4
      | some ps =>
        rw [en] at e4
        have e5 : (if ps.length < 64 then some (PyData.list ((srt2 ps).map pairD)) else none) = some d := e4
        split at e5
        · rename_i hs
          cases e5
          obtain ⟨b, xs, rfl, sq, r⟩ := dq_list q1
          obtain ⟨ed, sm⟩ := pairsD_some en
          rw [ed] at r
          obtain ⟨ks, rfl, ek, hk⟩ := pairs_at (K := X.K) r
          have lk : ks.length = ps.length := by
            have := congrArg List.length ek
            simpa using this
          have of_mem : ∀ k ∈ ks, ∃ p ∈ ps, k.2 = [p.1, p.2] := fun k m => by
            have m2 : k.2 ∈ ps.map (fun p => [p.1, p.2]) := by rw [← ek]; exact List.mem_map_of_mem m
            obtain ⟨p, hp, e⟩ := List.mem_map.mp m2
            exact ⟨p, hp, e.symm⟩
          refine ⟨b, ks, rfl, sq, fun p m => (hk p m).1, by omega, fun a L ha0 l1 l2 => ?_⟩
          have keepT : ∀ k ∈ ks, SqT X.K (upd H1 a (SetTO X.prog X.w a L)) k.1 (k.2.map V.int) := fun k m => seqT_same (same_new ha0) (hk k m).1
          refine ⟨a, L, 2, 64, rfl, upd_same, fun p m => keepT p (l1 p m), by omega, fun p m => ?_, fun L' pp perm nd lt64 rise hp => ?_⟩
          · obtain ⟨q, hq, e⟩ := of_mem p (l1 p m)
            have z := of_decide_eq_true (sm q hq)
            rw [e]
            exact ⟨rfl, fun n hn => by
              simp only [List.mem_cons, List.not_mem_nil, or_false] at hn
              rcases hn with rfl | rfl <;> omega⟩
          · have inks : ∀ k ∈ L', k ∈ ks := fun k m => l1 k (perm.mem_iff.mp m)
            obtain ⟨zs, z1, z2⟩ := prs_rise (fun k m => by
              obtain ⟨p, hp', e⟩ := of_mem k (inks k m)
              exact ⟨p, e, sm p hp'⟩) nd rise
            have ez : zs = srt2 ps := rise_eq z2 srt2_rise fun x => by
              rw [mem_srt2]
              constructor
              · intro hx
                have m : [x.1, x.2] ∈ L'.map (·.2) := by rw [z1]; exact List.mem_map.mpr ⟨x, hx, rfl⟩
                obtain ⟨k, hk', e⟩ := List.mem_map.mp m
                obtain ⟨p, hp', e'⟩ := of_mem k (inks k hk')
                have e6 : [x.1, x.2] = [p.1, p.2] := e.symm.trans e'
                simp only [List.cons.injEq, and_true] at e6
                have : x = p := Prod.ext e6.1 e6.2
                rw [this]
                exact hp'
              · intro hx
                have m : [x.1, x.2] ∈ ks.map (·.2) := by rw [ek]; exact List.mem_map.mpr ⟨x, hx, rfl⟩
                obtain ⟨k, hk', e⟩ := List.mem_map.mp m
                have m2 := l2 k hk'
                rw [show k.2 = [x.1, x.2] from e] at m2
                have m3 : [x.1, x.2] ∈ L'.map (·.2) := (perm.map (·.2)).mem_iff.mpr m2
                rw [z1] at m3
                obtain ⟨p, hp', e'⟩ := List.mem_map.mp m3
                have e6 : [p.1, p.2] = [x.1, x.2] := e'
                simp only [List.cons.injEq, and_true] at e6
                have : p = x := Prod.ext e6.1 e6.2
                rw [← this]
                exact hp'
            have sa : Same H1 (upd H1 a (SetTO X.prog X.w a L)) := same_new ha0
            have so2 := so1.same sa
            have dat : L'.map (fun k => PyData.tuple (k.2.map .int)) = (srt2 ps).map pairD := by
              have e1 : L'.map (fun k => PyData.tuple (k.2.map .int)) = (L'.map (·.2)).map (fun l => PyData.tuple (l.map .int)) := by rw [List.map_map]; rfl
              rw [e1, z1, ez, List.map_map]
              rfl
            have rr : DqAll (upd H1 a (SetTO X.prog X.w a L)) c1 (L'.map fun k => V.ref k.1) ((srt2 ps).map pairD) := by
              rw [← dat]
              exact dq_refs fun k m => (Ext.same sa).dq (hk k (inks k m)).2
            exact k _ _ c1 ((x1.trans (Ext.same sa)).trans (Ext.same (same_new hp))) (so2.same (same_new hp)) (new_lst so2.lv hp rr)
        · cases e5
    | _ => cases e3
end
end EF

set_option Elab.async false
set_option linter.all false
set_option maxRecDepth 100000
/-! EF26: a list that may change beside the empty list. -/
namespace EF
open PySem PySem.Spec PyProof.Rows L2
section
variable {X : Cx} {a b : Expr} {pos : Pos}
def cnilX (neg : Bool) (i : Nat) : XE := fun ρ => do
  let ds ← rdC i ρ
  ofOpt ((if neg = true then neD else eqD) (.list ds) (.list []))
theorem cnil_op {K : PySem.W.Frag} {r : R2} {neg : Bool} {i : Nat} {σ : L2.St} {H : Hp} {Q : VK} (hr : OpD K r (if neg = true then neD else eqD)) (h : tE K (cnilX neg i) σ H Q) : tOp r (tVar i) (tE K (lsX (fitX nilX))) σ H Q := by
  obtain ⟨ρ, cs, st, d, st', sl, so, ev, k⟩ := h
  obtain ⟨ds, s1, e1, e2⟩ := bind_some ev
  obtain ⟨e3, rfl⟩ := ofOpt_some e2
  obtain ⟨rfl, p, xs, ep, sq, r⟩ := rdC_at sl so e1
  have e0 : lsX (fitX nilX) ρ st = some (.list [], st) := rfl
  refine ⟨.ref p, ep, ρ, cs, st, .list [], st, sl, so, e0, fun u H1 c1 x1 so1 q1 => ?_⟩
  have e1' : rdC i ρ st = some (ds, st) := e1
  obtain ⟨_, p', xs', ep', sq', r'⟩ := rdC_at (x1.slots so.lv sl) so1 e1'
  rw [ep] at ep'
  cases ep'
  exact hr H1 c1 (.ref p) u (.list ds) (.list []) d Q so1.lv (.inr ⟨p, xs', ds, rfl, rfl, sq', r'⟩) q1.r e3 fun w H3 s3 q3 => k w H3 c1 (x1.trans (Ext.same s3)) (so1.same s3) q3
theorem s_cnil {op : CmpOp} {r : R2} {neg : Bool} {i : Nat} {p2 : Pos} (ho : OpR X (compareOp op) r) (hr : OpD X.K r (if neg = true then neD else eqD)) (ha : PE X a (tVar i)) : PE X (.Compare a [op] [.List [] p2] pos) (tE X.K (cnilX neg i)) :=
  (pe_cmpR ho ha (s_fresh (s_lstF s_nil)) rfl).imp fun σ H Q h => cnil_op hr h
theorem s_tcnil {op : CmpOp} {r : R2} {neg : Bool} {i : Nat} {p2 : Pos} (ho : OpR X (compareOp op) r) (hr : OpD X.K r (if neg = true then neD else eqD)) (ha : PE X a (tVar i)) : PT X (.Compare a [op] [.List [] p2] pos) (tT X.K (asB (cnilX neg i))) :=
  (pt_cmpR ho ha (s_fresh (s_lstF s_nil)) rfl).imp fun σ H Q h => cnil_op hr (tT_test h)
end
end EF

set_option Elab.async false
set_option linter.all false
set_option maxRecDepth 100000
/-! EF27: list(e) as a new list. -/
namespace EF
open PySem PySem.Spec PyProof.Rows L2
section
variable {X : Cx} {e : Expr} {p pos : Pos}
def listF (f : XE) : Rho → M (List PyData) := fun ρ => do let x ← f ρ; ofOpt (seqOf x)
theorem s_listF {f : XE} (hg : Gl X "list") (hm : X.mg "list" = none) (ha : PE X e (tR X.K f)) (he : starEach [e] X.env = (false, eval e X.env) :: starEach [] X.env) :
    PE X (.Call (.Name "list" p) [e] [] pos) (tF X.K (listF f)) :=
  (pe_callTy call_list_of hg hm (by kernel_rfl) (pa_cons ha pa_nil he) (by decide) (by decide) he rfl).imp fun σ H Q ⟨ρ, cs, st, d, st', sl, so, ev, k⟩ => by
    obtain ⟨y, s1, e1, e2⟩ := bind_some ev
    obtain ⟨e3, rfl⟩ := ofOpt_some e2
    refine ⟨ρ, cs, st, y, s1, sl, so, e1, fun v H1 c1 x1 so1 q1 => ?_⟩
    obtain ⟨a, xs, rfl, sq, r⟩ : ∃ a xs, v = .ref a ∧ (SqL X.K H1 a xs ∨ SqT X.K H1 a xs) ∧ DqAll H1 c1 xs d := by
      unfold seqOf at e3
      split at e3
      · cases e3
        obtain ⟨a, xs, rfl, sq, r⟩ := dq_list q1
        exact ⟨a, xs, rfl, .inl sq, r⟩
      · cases e3
        obtain ⟨a, xs, rfl, sq, _, r⟩ := dq_tup q1
        exact ⟨a, xs, rfl, .inr (SqT.of sq), r⟩
      · cases e3
    refine ⟨a, xs, rfl, sq, fun l hl => ?_⟩
    have fr : Frm H1 c1 (upd H1 l (.lst xs)) (c1.res l) := frm_res hl
    refine k l xs _ c1 (x1.free hl) (x1.trans (Ext.same (same_new hl))) (x1.frm.trans fr) ?_ (so1.lv.fresh hl) upd_same (fr.dqs r)
    have z := (so1.start hl).own (xs := xs) List.mem_cons_self
    rw [upd_upd] at z
    exact z
end
end EF

set_option Elab.async false
set_option linter.all false
set_option maxRecDepth 100000
set_option maxHeartbeats 4000000
/-! EF29: sorted(set(e)) of a list of ints. -/
namespace EF
open PySem PySem.Spec PyProof.Rows L2
/-- what set(..) begins with -/
abbrev seed0 (w : World) : Obj := { cls := .type "set", dict := none, data := .set #[] 0 (.fresh 0 0 (!w.params.followText "set-order")) }
section
variable {P : Program} {w : World} {A : Around} {E : Value → Shared → Prop} {s : Shared}
theorem setOfL {l : Addr} {items : Array Value} (ns : List Int) {Q : Value → Shared → Prop} (hh : A.handled = none) (hl : s.heap.IsList l items) (hit : IntsAre items.toList ns) (hb : ns.length + 1 < scanBound)
    (fin : ∀ (h' : Heap) (tk c : Nat), SetR w h' s.heap.objs.size (fun j => decide (j ∈ ns)) c → c ≤ ns.length → (∀ b o, s.heap.get? b = some o → h'.get? b = some o) → Q (.ref s.heap.objs.size) { s with heap := h', toks := tk }) :
    wpAny (model P w) A (call (.type "set") [.ref l]) Q E s := by
  have sz : items.size = ns.length := by have q := IntsAre.length hit; rwa [Array.length_toList] at q
  have ⟨c, tl, hmro⟩ := F.called_set.mro
  have m1 := F.called_set.made
  have m2 := F.called_set.sub
  have m3 := F.called_set.notType
  have m4 := F.called_set.canCreate
  have m5 := F.typeCall_set_1 (.ref l)
  refine wpAny_call (codeAny_of_tree (show wpAny _ _ (callAny (.type "set") _) _ _ _ from ?_))
  refine wpAny_pure ⟨Code.quiet_builtin _ (by decide +kernel), codeAny_builtin F.entry_type_call ?_⟩
  rw [Around.under_plain (weight_type_call_type "set" [.ref l] []) rfl]
  repeat (any_goals (first | assumption | wp_step))
  obtain ⟨hp1, ehp1⟩ : ∃ hp1 : Heap, s.heap.push (seed0 w) = hp1 := ⟨_, rfl⟩
  refine codeAny_mono (code_set_led1 (.ref l) (E := E) (Q₁ := fun obj s₁ => obj = .ref s.heap.objs.size ∧ s₁ = { s with heap := hp1 }) ⟨rfl, by rw [← ehp1]⟩) fun r s₁ hr => ?_
  cases r with
  | error e => exact hr
  | ok fl =>
    cases fl with
    | ret obj =>
      obtain ⟨rfl, rfl⟩ := hr
      have z1 : hp1.objs.size = s.heap.objs.size + 1 := by rw [← ehp1]; exact Heap.size_push ..
      have g1 : hp1.get? s.heap.objs.size = some (seed0 w) := by rw [← ehp1]; exact Heap.get?_push_size _ rfl
      have k1 : ∀ b o, s.heap.get? b = some o → hp1.get? b = some o := fun b o e => by rw [← ehp1]; exact Heap.get?_push_of_some _ e
      have hT : Shared.TypeIs { s with heap := hp1 } (.ref s.heap.objs.size) "set" := ⟨_, g1, rfl⟩
      have i1 := F.called_set.init.lookup
      have i2 := F.called_set.init.bind (.ref s.heap.objs.size)
      repeat (any_goals (first | assumption | wp_step))
      refine codeAny_mono (codeAny_call_builtin (R := wants (fun r s₂ => r = .none ∧ ∃ h' tk c, s₂ = { s with heap := h', toks := tk } ∧ SetR w h' s.heap.objs.size (fun j => decide (j ∈ ns)) c ∧ c ≤ ns.length ∧ (∀ b o, s.heap.get? b = some o → h'.get? b = some o)) E)
        F.called_set.init.plain F.entry_set_init (check_set_init_1 hT ?_)) fun r₂ s₂ hr₂ => ?_
      · obtain ⟨⟨oc, od, odt, osl⟩, hol, hcl, nl, hdl⟩ := hl
        simp only at hcl hdl
        subst hcl
        subst hdl
        have hl1 : hp1.IsList l items := ⟨_, k1 _ _ hol, rfl, nl, rfl⟩
        have hol' := k1 _ _ hol
        have j1 := F.sub_list_set
        have j2 := F.sub_list_frozenset
        have j3 : (Value.type "list" == Value.type "dict") = false := by decide
        unfold Builtin.«set.__init__» noKeywords Builtin.Frozenset.updateFrom
        generalize hPI : pyIter = PI
        wp_walk
        subst hPI
        refine wpAny_pyIter_list hl1 (wpAny_bind (wpAny_runValue ?_))
        have ll : l < s.heap.objs.size := Heap.lt_size hol
        have nI : l ≠ hp1.objs.size := Nat.ne_of_lt (by rw [z1]; exact Nat.lt_succ_of_lt ll)
        have nS : s.heap.objs.size ∉ [hp1.objs.size, l] := by
          simp only [List.mem_cons, List.not_mem_nil, or_false, not_or]
          exact ⟨Nat.ne_of_lt (by rw [z1]; exact Nat.lt_succ_self _), Nat.ne_of_gt ll⟩
        refine set_update_ints (Walks.list (show A.in1.in1.in1.handled = none by simp [hh]) _ l nI items).toS s.heap.objs.size nS ns sz hb (fun i v hv => ?_) (items.size - 0) 0 _ (by omega) (Nat.zero_le _)
          ⟨⟨_, Heap.get?_push_size _ rfl, rfl, rfl⟩, (hl1.push _)⟩ ⟨0, Nat.le_refl 0, setR_new_at (Heap.get?_push_of_some _ g1)⟩ fun s' c' mv hc' R' => ?_
        · have hi : i < ns.length := by rw [← sz]; exact (Array.getElem?_eq_some_iff.mp hv).1
          obtain ⟨t, e⟩ := PyProof.Rows.IntsAre.int_at hit i v (by rw [Array.getElem?_toList]; exact hv)
          exact ⟨ns[i], t, List.getElem?_eq_getElem hi, by rw [e, List.getD_eq_getElem?_getD, List.getElem?_eq_getElem hi] <;> rfl⟩
        · obtain ⟨h', g2, d', tk', os'⟩ := s'
          have q1 : g2 = s.gens := mv.gens
          have q2 : d' = s.drawn := mv.drawn
          have q3 : os' = s.os := mv.os
          subst q1 q2 q3
          refine wpAny_pure (show wpAny _ _ (ret Value.none) _ _ _ from ?_)
          rw [sz] at hc'
          refine wpAny_pure ⟨rfl, h', tk', c', rfl, R', hc', fun b o e => mv.heap b o ?_ (Heap.get?_push_of_some _ (k1 b o e))⟩
          have lb := Heap.lt_size e
          simp only [List.mem_cons, List.not_mem_nil, or_false, not_or]
          exact ⟨Nat.ne_of_lt lb, Nat.ne_of_lt (by rw [z1]; exact Nat.lt_succ_of_lt lb)⟩
      · cases r₂ with
        | error e => exact hr₂
        | ok f2 =>
          cases f2 with
          | ret r =>
            obtain ⟨rfl, h', tk, c', rfl, R', hc', keep'⟩ := hr₂
            repeat (any_goals (first | assumption | wp_step))
            exact fin _ _ _ R' hc' keep'
          | _ => exact hr₂.elim
    | _ => exact hr.elim
end
/-! ### by data -/
def ins1 (p : Int) : List Int → List Int
  | [] => [p]
  | q :: r => if p < q then p :: q :: r else if p = q then q :: r else q :: ins1 p r
def srt1 : List Int → List Int
  | [] => []
  | p :: r => ins1 p (srt1 r)
theorem mem_ins1 {p x : Int} : ∀ {l : List Int}, x ∈ ins1 p l ↔ x = p ∨ x ∈ l
  | [] => by simp [ins1]
  | q :: r => by
    unfold ins1
    split
    · simp
    · split
      · rename_i e
        subst e
        simp
      · simp only [List.mem_cons]
        rw [mem_ins1]
        constructor
        · rintro (h | h | h)
          · exact .inr (.inl h)
          · exact .inl h
          · exact .inr (.inr h)
        · rintro (h | h | h)
          · exact .inr (.inl h)
          · exact .inl h
          · exact .inr (.inr h)
theorem mem_srt1 {x : Int} : ∀ {l : List Int}, x ∈ srt1 l ↔ x ∈ l
  | [] => Iff.rfl
  | p :: r => by
    unfold srt1
    rw [mem_ins1, mem_srt1, List.mem_cons]
theorem ins1_rise {p : Int} : ∀ {l : List Int}, l.Pairwise (· < ·) → (ins1 p l).Pairwise (· < ·)
  | [], _ => by simp [ins1]
  | q :: r, h => by
    obtain ⟨h1, h2⟩ := List.pairwise_cons.mp h
    unfold ins1
    split
    · rename_i e
      refine List.pairwise_cons.mpr ⟨fun x hx => ?_, h⟩
      rcases List.mem_cons.mp hx with rfl | hx
      · exact e
      · have b := h1 x hx
        omega
    · split
      · exact h
      · rename_i n1 n2
        refine List.pairwise_cons.mpr ⟨fun x hx => ?_, ins1_rise h2⟩
        rcases mem_ins1.mp hx with rfl | hx
        · omega
        · exact h1 x hx
theorem srt1_rise : ∀ {l : List Int}, (srt1 l).Pairwise (· < ·)
  | [] => List.Pairwise.nil
  | p :: r => ins1_rise srt1_rise
/-- rising lists with the same members are the same -/
theorem rise1_eq : ∀ {a b : List Int}, a.Pairwise (· < ·) → b.Pairwise (· < ·) → (∀ x, x ∈ a ↔ x ∈ b) → a = b
  | [], [], _, _, _ => rfl
  | [], y :: b, _, _, h => by cases (h y).mpr List.mem_cons_self
  | x :: a, [], _, _, h => by cases (h x).mp List.mem_cons_self
  | x :: a, y :: b, ha, hb, h => by
    obtain ⟨a1, a2⟩ := List.pairwise_cons.mp ha
    obtain ⟨b1, b2⟩ := List.pairwise_cons.mp hb
    have e : x = y := by
      rcases List.mem_cons.mp ((h x).mp List.mem_cons_self) with q | q
      · exact q
      · rcases List.mem_cons.mp ((h y).mpr List.mem_cons_self) with q2 | q2
        · exact q2.symm
        · have u := b1 x q
          have v := a1 y q2
          omega
    subst e
    congr 1
    refine rise1_eq a2 b2 fun z => ⟨fun hz => ?_, fun hz => ?_⟩
    · rcases List.mem_cons.mp ((h z).mp (List.mem_cons_of_mem _ hz)) with q | q
      · subst q
        have := a1 z hz
        omega
      · exact q
    · rcases List.mem_cons.mp ((h z).mpr (List.mem_cons_of_mem _ hz)) with q | q
      · subst q
        have := b1 z hz
        omega
      · exact q
def sst1D : PyData → Option PyData
  | .list ds => (intsD ds).bind fun ns => if ns.length < 64 then some (.list ((srt1 ns).map .int)) else none
  | _ => none
section
variable {X : Cx}
def rSetL (K : PySem.W.Frag) (w : World) : List V → Hp → VK → Prop := fun xs H Q => ∃ (l : Addr) (ns : List Int), xs = [V.ref l] ∧ SqL K H l (ns.map V.int) ∧ ns.length < 64 ∧
  ∀ (p : Addr) (c : Nat), H p = none → c ≤ ns.length → Q (.ref p) (upd H p (SetO w p (fun j => decide (j ∈ ns)) c))
theorem cr_setL (hc : X.calm = true) : CallR X (.type "set") (rSetL X.K X.w) := by
  rintro pins s σ H xs us Q I r ⟨l, ns, rfl, hl, hf, q⟩
  rw [Vals.ref1 r]
  obtain ⟨its, rv, pl, hz⟩ := I.list hl
  have hn : H s.heap.objs.size = none := I.hok.fresh (Nat.le_refl _)
  refine setOfL ns (I.ok.hd hc) pl.isList (by simpa using rv.ints) (by unfold scanBound; omega) fun h' tk c R hcl keep => ?_
  exact ⟨.ref s.heap.objs.size, upd H s.heap.objs.size (SetO X.w s.heap.objs.size (fun j => decide (j ∈ ns)) c), I.laid (t' := tk) keep (Nat.le_refl _) (setO_new R), rfl, q _ c hn hcl⟩
theorem dq_ints {H : Hp} {cs : CS} : ∀ {ns : List Int}, DqAll H cs (ns.map V.int) (ns.map .int)
  | [] => .nil
  | n :: _ => .cons (.int n) dq_ints
theorem s_sst1 {a : Expr} {f : XE} {p p2 q pos : Pos} (hc : X.calm = true) (hg : Gl X "sorted") (hm : X.mg "sorted" = none) (hg2 : Gl X "set") (hm2 : X.mg "set" = none) (ha : PE X a (tR X.K f)) (na : starEach [a] X.env = (false, eval a X.env) :: starEach [] X.env) :
    PE X (.Call (.Name "sorted" p) [.Call (.Name "set" p2) [a] [] q] [] pos) (tE X.K (un1 sst1D f)) :=
  (pe_callB (cr_sortedSet hc) hg hm (by kernel_rfl) (pa_cons (pe_callTy (cr_setL hc) hg2 hm2 PyProof.Rows.boot_set (pa_cons ha pa_nil na) (by decide) (by decide) na rfl) pa_nil rfl) (by decide) (by decide) rfl rfl).imp fun σ H Q ⟨ρ, cs, st, d, st', sl, so, ev, k⟩ => by
    obtain ⟨y, s1, e1, e2⟩ := bind_some ev
    obtain ⟨e3, rfl⟩ := ofOpt_some e2
    refine ⟨ρ, cs, st, y, s1, sl, so, e1, fun v H1 c1 x1 so1 q1 => ?_⟩
    cases y with
    | list ds =>
      have e4 : ((intsD ds).bind fun ns => if ns.length < 64 then some (PyData.list ((srt1 ns).map .int)) else none) = some d := e3
      cases en : intsD ds with
      | none => rw [en] at e4; cases e4
      | some ns =>
        rw [en] at e4
        have e5 : (if ns.length < 64 then some (PyData.list ((srt1 ns).map .int)) else none) = some d := e4
        split at e5
        · rename_i hs
          cases e5
          obtain ⟨b, xs, rfl, sq, r⟩ := dq_list q1
          rw [intsD_map en] at r
          rw [ints_vs r] at sq
          refine ⟨b, ns, rfl, sq, hs, fun a c ha0 hcl => ?_⟩
          refine ⟨a, _, c, rfl, upd_same, by omega, fun ms pp rise mem len hp => ?_⟩
          have ez : ms = srt1 ns := rise1_eq rise srt1_rise fun x => by rw [mem_srt1, mem x]; simp
          have sa : Same H1 (upd H1 a (SetO X.w a (fun j => decide (j ∈ ns)) c)) := same_new ha0
          have so2 := so1.same sa
          rw [ez]
          exact k _ _ c1 ((x1.trans (Ext.same sa)).trans (Ext.same (same_new hp))) (so2.same (same_new hp)) (new_lst so2.lv hp dq_ints)
        · cases e5
    | _ => cases e3
def sstD (d : PyData) : Option PyData := (sst2D d).or (sst1D d)
theorem s_sst {a : Expr} {f : XE} {p p2 q pos : Pos} (hc : X.calm = true) (hu : X.A.units + 64 < cLine) (hg : Gl X "sorted") (hm : X.mg "sorted" = none) (hg2 : Gl X "set") (hm2 : X.mg "set" = none) (ha : PE X a (tR X.K f)) (na : starEach [a] X.env = (false, eval a X.env) :: starEach [] X.env) :
    PE X (.Call (.Name "sorted" p) [.Call (.Name "set" p2) [a] [] q] [] pos) (tE X.K (un1 sstD f)) := by
  have r2 := s_sst2 (p := p) (p2 := p2) (q := q) (pos := pos) hc hu hg hm hg2 hm2 ha na
  have r1 := s_sst1 (p := p) (p2 := p2) (q := q) (pos := pos) hc hg hm hg2 hm2 ha na
  refine ⟨fun pins s σ H Q I h => ?_⟩
  obtain ⟨ρ, cs, st, d, st', sl, so, ev, k⟩ := h
  obtain ⟨y, s1, e1, e2⟩ := bind_some ev
  obtain ⟨e3, rfl⟩ := ofOpt_some e2
  cases q2 : sst2D y with
  | some d2 =>
    have : (some d2).or (sst1D y) = some d := by rw [← q2]; exact e3
    cases this
    exact r2.run pins s σ H Q I ⟨ρ, cs, st, d, s1, sl, so, (bind_eq e1).trans (by rw [q2]; rfl), k⟩
  | none =>
    have : (none : Option PyData).or (sst1D y) = some d := by rw [← q2]; exact e3
    have q1 : sst1D y = some d := this
    exact r1.run pins s σ H Q I ⟨ρ, cs, st, d, s1, sl, so, (bind_eq e1).trans (by rw [q1]; rfl), k⟩
end
end EF

set_option Elab.async false
set_option linter.all false
set_option maxRecDepth 100000
/-! EF12: a small language for the defs of the text, and what its terms do. -/
namespace EF
open PySem PySem.Spec PyProof.Rows L2

abbrev Gf := List W → M W
inductive BOp where
  | add | sub | mul | fdiv | mod | pow
inductive COp where
  | eq | ne | lt | le | gt | ge | is | isnt | isin | notin
inductive F1 where
  | len | all | any | tuple | list | int | abs | repr
mutual
inductive T where
  | k (d : PyData) | g (i : Int) | v (i : Nat) | cv (i : Nat)
  | bin (o : BOp) (a b : T) | neg (a : T) | cmp (o : COp) (a b : T) | chn (o1 o2 : COp) (a b c : T)
  | and (a b : T) | or (a b : T) | one (a : T) | not (a : T) | ite (c : B) (a b : T)
  | tup (es : As) | lst (es : As) | ix (a b : T) | cix (i : Nat) (b : T) | sli (a : T) (lo hi : O) | csli (i : Nat) (lo hi : O)
  | f1 (f : F1) (a : T) | ty (neg : Bool) (n : String) (a : T) | isi (n : String) (a : T)
  | call (x : Str) (g : Gf) (args : Ws) | callk (x : Str) (g : Gf) (n : Nat) (ks : List Str) (pi : List Nat) (args kws : Ws)
  | comp (it : I) (tg : G) (test : B) (elt : T) (own : List (Str × Nat)) | slen (it : I) (tg : G) (elt : T) (own : List (Str × Nat))
  | pop (i : Nat) (a : T) | lens (a : T) | sst (a : T) | cnil (neg : Bool) (i : Nat)
inductive B where
  | e (a : T) | not (a : B) | and (a b : B) | or (a b : B) | one (a : B) | yes
inductive I where
  | e (a : T) | cell (i : Nat) | rng1 (a : T) | rng2 (a b : T) | enum (a : T) | zip2 (a b : T) | zip3 (a b c : T)
inductive As where
  | nil | cons (a : T) (r : As)
inductive Ws where
  | nil | dat (a : T) (r : Ws) | cel (i : Nat) (r : Ws)
inductive O where
  | none | some (a : T)
end
inductive Sm where
  | set1 (i : Nat) (a : T) | set (g : G) (a : T) | new (i : Nat) (a : T) | setc (i : Nat) (x : Str) (g : Gf) (args : Ws) | par (i j : Nat) (a b : T)
  | add (i : Nat) (a : T) | sub (i : Nat) (a : T) | app (i : Nat) (a : T) | put (i : Nat) (j a : T) | ret (a : T) | retn | retc (a : T) | drop (a : T) | cnt | brk | pass | never
mutual
inductive S where
  | sm (s : Sm) | ifs (c : B) (a b : Ss) | for_ (it : I) (g : G) (body : Ss) | wh (n : Nat) (c : B) (body : Ss)
inductive Ss where
  | nil | cons (s : S) (r : Ss) | frz (i : Nat) (r : Ss)
end

def BOp.d : BOp → PyData → PyData → Option PyData
  | .add => addD | .sub => subD | .mul => mulD | .fdiv => fdivD | .mod => modD | .pow => powD
def COp.d : COp → PyData → PyData → Option PyData
  | .eq => eqD | .ne => neD | .lt => ltD | .le => leD | .gt => gtD | .ge => geD | .is => isD | .isnt => isntD | .isin => inD false | .notin => inD true
def F1.d : F1 → PyData → Option PyData
  | .len => lenD | .all => allD | .any => anyD | .tuple => tupD | .list => lisD | .int => intD | .abs => absD | .repr => reprD
mutual
noncomputable def T.ev : T → XE
  | .k d => fun _ => pure d
  | .g i => fun _ => pure (.int i)
  | .v i => rdV i
  | .cv i => rdCV i
  | .bin o a b => bin2 o.d a.ev b.ev
  | .neg a => un1 negD a.ev
  | .cmp o a b => bin2 o.d a.ev b.ev
  | .chn o1 o2 a b c => chn o1.d o2.d a.ev b.ev c.ev
  | .and a b => andX a.ev b.ev
  | .or a b => orX a.ev b.ev
  | .one a => a.ev
  | .not a => notX a.ev
  | .ite c a b => iteX c.ev a.ev b.ev
  | .tup es => tupX es.ev
  | .lst es => lsX (fitX es.ev)
  | .ix a b => bin2 ixD a.ev b.ev
  | .cix i b => cixX i b.ev
  | .sli a lo hi => sliX a.ev lo.ev hi.ev
  | .csli i lo hi => csliX i lo.ev hi.ev
  | .f1 f a => un1 f.d a.ev
  | .ty neg n a => tyX neg n a.ev
  | .isi n a => isiX n a.ev
  | .call _ g args => callX g args.ev
  | .callk _ g n ks pi args kws => callKX g n ks.length pi args.ev kws.ev
  | .comp it tg test elt own => lsX (lcF it.ev tg test.ev elt.ev (own.map (·.2)))
  | .slen it tg elt own => slenX it.ev tg elt.ev (own.map (·.2))
  | .pop i a => popX i a.ev
  | .lens a => un1 lensD a.ev
  | .sst a => un1 sstD a.ev
  | .cnil neg i => cnilX neg i
noncomputable def B.ev : B → XB
  | .e a => asB a.ev
  | .not a => notB a.ev
  | .and a b => andB a.ev b.ev
  | .or a b => orB a.ev b.ev
  | .one a => a.ev
  | .yes => fun _ => pure true
noncomputable def I.ev : I → XI
  | .e a => anyI a.ev
  | .cell i => cellI i
  | .rng1 a => rng1I (consX a.ev nilX)
  | .rng2 a b => rng2I (consX a.ev (consX b.ev nilX))
  | .enum a => enumI (consX a.ev nilX)
  | .zip2 a b => zip2I (consX a.ev (consX b.ev nilX))
  | .zip3 a b c => zip3I (consX a.ev (consX b.ev (consX c.ev nilX)))
noncomputable def As.ev : As → Rho → M (List PyData)
  | .nil => nilX
  | .cons a r => consX a.ev r.ev
noncomputable def Ws.ev : Ws → Rho → M (List W)
  | .nil => nilW
  | .dat a r => consW (datW a.ev) r.ev
  | .cel i r => consW (celW i) r.ev
noncomputable def O.ev : O → XO
  | .none => noO
  | .some a => someO a.ev
end
/-- a term whose value is a new list, as that list -/
noncomputable def T.evF : T → Rho → M (List PyData)
  | .lst es => fitX es.ev
  | .f1 .list a => listF a.ev
  | .comp it tg test elt own => lcF it.ev tg test.ev elt.ev (own.map (·.2))
  | _ => fun _ => fail
noncomputable def Sm.ev : Sm → XS
  | .set1 i a => set1S i a.ev
  | .set g a => setS g a.ev
  | .new i a => newS i a.evF
  | .setc i _ g args => setcX i g args.ev
  | .par i j a b => parS i j (consX a.ev (consX b.ev nilX))
  | .add i a => augX i (fun i j => i + j) a.ev
  | .sub i a => augX i (fun i j => i - j) a.ev
  | .app i a => dropS (appX i a.ev)
  | .put i j a => putX i j.ev a.ev
  | .ret a => retS a.ev
  | .retn => retnS
  | .retc a => retcS a.evF
  | .drop a => dropS a.ev
  | .cnt => cntS
  | .brk => brkS
  | .pass => skipS
  | .never => nevS
mutual
noncomputable def S.ev : S → XS
  | .sm s => s.ev
  | .ifs c a b => ifS c.ev a.ev b.ev
  | .for_ it g body => forS it.ev g body.ev
  | .wh n c body => whGo c.ev body.ev n
noncomputable def Ss.ev : Ss → XS
  | .nil => skipS
  | .cons s r => seqS s.ev r.ev
  | .frz i r => seqS (frzS i) r.ev
end
/-- the defs that a term calls: name, number of parameters, what it does; with keywords: how many are positional, the keywords, how they are put in the parameters' order -/
inductive Nd where
  | pos (x : Str) (np : Nat) (g : Gf) | kw (x : Str) (g : Gf) (n : Nat) (ks : List Str) (pi : List Nat)
abbrev Need := List Nd
def Ws.len : Ws → Nat
  | .nil => 0
  | .dat _ r => r.len + 1
  | .cel _ r => r.len + 1
mutual
def T.need : T → Need
  | .bin _ a b => a.need ++ b.need
  | .neg a => a.need
  | .cmp _ a b => a.need ++ b.need
  | .chn _ _ a b c => a.need ++ (b.need ++ c.need)
  | .and a b => a.need ++ b.need
  | .or a b => a.need ++ b.need
  | .one a => a.need
  | .not a => a.need
  | .ite c a b => c.need ++ (a.need ++ b.need)
  | .tup es => es.need
  | .lst es => es.need
  | .ix a b => a.need ++ b.need
  | .cix _ b => b.need
  | .sli a lo hi => a.need ++ (lo.need ++ hi.need)
  | .csli _ lo hi => lo.need ++ hi.need
  | .f1 _ a => a.need
  | .ty _ _ a => a.need
  | .isi _ a => a.need
  | .call x g args => .pos x args.len g :: args.need
  | .callk x g n ks pi args kws => .kw x g n ks pi :: (args.need ++ kws.need)
  | .comp it _ test elt _ => it.need ++ (test.need ++ elt.need)
  | .slen it _ elt _ => it.need ++ elt.need
  | .pop _ a => a.need
  | .lens a => a.need
  | .sst a => a.need
  | _ => []
def B.need : B → Need
  | .e a => a.need
  | .not a => a.need
  | .and a b => a.need ++ b.need
  | .or a b => a.need ++ b.need
  | .one a => a.need
  | .yes => []
def I.need : I → Need
  | .e a => a.need
  | .cell _ => []
  | .rng1 a => a.need
  | .rng2 a b => a.need ++ b.need
  | .enum a => a.need
  | .zip2 a b => a.need ++ b.need
  | .zip3 a b c => a.need ++ (b.need ++ c.need)
def As.need : As → Need
  | .nil => []
  | .cons a r => a.need ++ r.need
def Ws.need : Ws → Need
  | .nil => []
  | .dat a r => a.need ++ r.need
  | .cel _ r => r.need
def O.need : O → Need
  | .none => []
  | .some a => a.need
end
def Sm.need : Sm → Need
  | .set1 _ a => a.need
  | .set _ a => a.need
  | .new _ a => a.need
  | .setc _ x g args => .pos x args.len g :: args.need
  | .par _ _ a b => a.need ++ b.need
  | .add _ a => a.need
  | .sub _ a => a.need
  | .app _ a => a.need
  | .put _ j a => j.need ++ a.need
  | .ret a => a.need
  | .retc a => a.need
  | .drop a => a.need
  | _ => []
mutual
def S.need : S → Need
  | .sm s => s.need
  | .ifs c a b => c.need ++ (a.need ++ b.need)
  | .for_ it _ body => it.need ++ body.need
  | .wh _ c body => c.need ++ body.need
def Ss.need : Ss → Need
  | .nil => []
  | .cons s r => s.need ++ r.need
  | .frz _ r => r.need
end
end EF

set_option Elab.async false
set_option linter.all false
set_option maxRecDepth 100000
/-! EF13: which terms stand for which expressions. -/
namespace EF
open PySem PySem.Spec PyProof.Rows L2

def bltNames : List Str := ["range", "enumerate", "zip", "len", "all", "any", "tuple", "list", "int", "bool", "str", "abs", "repr", "type", "isinstance", "sum", "min", "max", "sorted", "set", "reversed", "dict"]
/-- what does not change within a def -/
structure Stt (X : Cx) (N : List Str) (cn : List (Str × Int)) (fn : Str → Bool) (sc : Scope) (k : Nat) : Prop where
  hN : X.N = N
  nd : N.Nodup
  hsc : X.env.scope = sc
  kd : sc.kind = .function
  hfn : X.fn = fn
  calm : X.calm = true
  gd : X.A.guards = some []
  room : Room k X.A
  xe : X.xe = fun _ _ => False
  blt : ∀ x ∈ bltNames, X.mg x = none
  con : ∀ q ∈ cn, ∃ t, X.mg q.1 = some (.int q.2 t)
/-- a def that is called stands -/
def Has (X : Cx) (k : Nat) : Nd → Prop
  | .pos x np g => ∃ f fd ps, X.mg x = some (.ref f) ∧ PySem.W.keepIn X.K (.ref f) = true ∧ Binds X.K fd ps [] ∧ ps.length = np ∧ FnG X.prog X.w X.K X.mg X.base k f fd ps (spG X.K np g)
  | .kw x g n ks pi => ∃ f fd ps, X.mg x = some (.ref f) ∧ PySem.W.keepIn X.K (.ref f) = true ∧ KwB X.K fd ps n ks pi ∧ FnG X.prog X.w X.K X.mg X.base k f fd ps (spG X.K pi.length g)
def Hasall (X : Cx) (k : Nat) (l : Need) : Prop := ∀ q ∈ l, Has X k q
theorem Hasall.l {X : Cx} {k : Nat} {a b : Need} (h : Hasall X k (a ++ b)) : Hasall X k a := fun q m => h q (List.mem_append_left _ m)
theorem Hasall.r {X : Cx} {k : Nat} {a b : Need} (h : Hasall X k (a ++ b)) : Hasall X k b := fun q m => h q (List.mem_append_right _ m)
theorem Hasall.tl {X : Cx} {k : Nat} {a : Nd} {b : Need} (h : Hasall X k (a :: b)) : Hasall X k b := fun q m => h q (List.mem_cons_of_mem _ m)
theorem Hasall.hd {X : Cx} {k : Nat} {a : Nd} {b : Need} (h : Hasall X k (a :: b)) : Has X k a := h a List.mem_cons_self

/-! ### names -/
def visB (sc : Scope) (x : Str) : Bool := match sc.names.lookup x with
  | some .local => true | some .cell => true | some .free => true | _ => false
def glB (sc : Scope) (x : Str) : Bool := match sc.names.lookup x with
  | some .globalImplicit => true | _ => false
def locB (fn : Str → Bool) (sc : Scope) (x : Str) : Bool := match sc.names.lookup x with
  | some .local => true | some .cell => fn x | _ => false
def okN (x : Str) : Bool := decide ((x == ("__debug__" : Str)) = false) && decide ((x == ("__classdict__" : Str)) = false) && decide (x ≠ "__name__")
theorem vis_of {sc : Scope} {x : Str} (h : visB sc x = true) : Vis sc x := by
  unfold visB at h
  split at h
  · exact .inl (by assumption)
  · exact .inr (.inl (by assumption))
  · exact .inr (.inr (by assumption))
  · cases h
theorem gl_of {sc : Scope} {x : Str} (h : glB sc x = true) : sc.names.lookup x = some .globalImplicit := by
  unfold glB at h
  split at h
  · assumption
  · cases h
theorem loc_of {fn : Str → Bool} {sc : Scope} {x : Str} (h : locB fn sc x = true) : Loc sc x ∧ (fn x = true ∨ sc.names.lookup x = some .local) := by
  unfold locB at h
  split at h
  · rename_i e
    exact ⟨.inl e, .inr e⟩
  · rename_i e
    exact ⟨.inr e, .inl h⟩
  · cases h
/-- e is the name of slot i -/
def nmB (N : List Str) (sc : Scope) (i : Nat) : Expr → Bool
  | .Name x _ => decide (N[i]? = some x) && visB sc x && okN x
  | _ => false
/-- e is the built-in name x -/
def bnB (sc : Scope) (x : Str) : Expr → Bool
  | .Name y _ => decide (y = x) && glB sc y && okN y && decide (y ∈ bltNames)
  | _ => false
section
variable {X : Cx} {N : List Str} {cn : List (Str × Int)} {fn : Str → Bool} {sc : Scope} {k : Nat}
theorem nm_ok (S : Stt X N cn fn sc k) {i : Nat} {e : Expr} (h : nmB N sc i e = true) : PE X e (tVar i) := by
  unfold nmB at h
  split at h
  · rename_i x pos
    simp only [okN, Bool.and_eq_true, decide_eq_true_eq] at h
    obtain ⟨⟨h1, h2⟩, ⟨h3, h4⟩, h5⟩ := h
    exact pe_var (by rw [S.hN]; exact h1) (by rw [S.hsc]; exact vis_of h2) h3 h4
  · cases h
theorem bn_ok (S : Stt X N cn fn sc k) {x : Str} {e : Expr} (h : bnB sc x e = true) : ∃ p, e = .Name x p ∧ Gl X x ∧ X.mg x = none ∧ x ≠ "__name__" ∧ (x == ("__debug__" : Str)) = false := by
  unfold bnB at h
  split at h
  · rename_i y pos
    simp only [okN, Bool.and_eq_true, decide_eq_true_eq] at h
    obtain ⟨⟨⟨rfl, h2⟩, ⟨h3, h4⟩, h5⟩, h6⟩ := h
    refine ⟨pos, rfl, ?_, S.blt _ h6, h5, h3⟩
    show X.env.scope.names.lookup _ = _
    rw [S.hsc]
    exact gl_of h2
  · cases h
end

/-! ### forms -/
def noStar : Expr → Bool
  | .Starred _ _ => false
  | _ => true
theorem star_cons {e : Expr} {es : List Expr} {env : Env} (h : noStar e = true) : starEach (e :: es) env = (false, eval e env) :: starEach es env := by
  cases e <;> first | rfl | cases h
theorem star_any {pos : Pos} {env : Env} : ∀ {es : List Expr}, es.all noStar = true → (backTo pos (starEach es env)).any (·.1) = false
  | [], _ => rfl
  | e :: es, h => by
    simp only [List.all_cons, Bool.and_eq_true] at h
    rw [star_cons h.1]
    show (false || (backTo pos (starEach es env)).any (·.1)) = false
    rw [star_any h.2]; rfl
def plainE : Expr → Bool
  | .Name _ _ => true | .Call _ _ _ _ => true | .Subscript _ _ _ => true | .Constant _ _ _ => true | .BinOp _ _ _ _ => true | .Attribute _ _ _ => true | _ => false
theorem plain_true {e : Expr} {env : Env} (h : plainE e = true) (whole : Sem Value) : isTrue e env whole = (do let v ← whole; standAt e.pos; holding [v] (truthy v)) := by
  cases e <;> first | rfl | cases h
theorem plain_ix {e : Expr} (h : plainE e = true) : PlainIx e := by
  cases e <;> first | (intro o i; rfl) | cases h
def ixE : Expr → Bool
  | .UnaryOp _ _ _ => true | .IfExp _ _ _ _ => true | e => plainE e
theorem ix_plain {e : Expr} (h : ixE e = true) : PlainIx e := by
  cases e <;> first | (intro o i; rfl) | cases h
def noSet : Expr → Bool
  | .Set _ _ _ => false | _ => true
theorem set_marks {op : CmpOp} {e : Expr} (h : noSet e = true) : behindInMarks op e = false := by
  cases e <;> first | rfl | cases h
theorem set_fold {e : Expr} {env : Env} (h : noSet e = true) (x : Value) : foldedSetIterable e env x = pure x := by
  cases e <;> first | rfl | cases h
def bopB : BOp → Operator → Bool
  | .add, .Add => true | .sub, .Sub => true | .mul, .Mult => true | .fdiv, .FloorDiv => true | .mod, .Mod => true | .pow, .Pow => true | _, _ => false
def copB : COp → CmpOp → Bool
  | .eq, .Eq => true | .ne, .NotEq => true | .lt, .Lt => true | .le, .LtE => true | .gt, .Gt => true | .ge, .GtE => true | .is, .Is => true | .isnt, .IsNot => true | .isin, .In => true | .notin, .NotIn => true | _, _ => false
section
variable {X : Cx} {N : List Str} {cn : List (Str × Int)} {fn : Str → Bool} {sc : Scope} {k : Nat} {a b c : Expr} {pos : Pos}
theorem bop_ok {o : BOp} {op : Operator} {f1 f2 : XE} (h : bopB o op = true) (ha : PE X a (tE X.K f1)) (hb : PE X b (tE X.K f2)) : PE X (.BinOp a op b pos) (tE X.K (bin2 o.d f1 f2)) := by
  cases o with
  | add =>
    obtain rfl : op = .Add := by cases op <;> first | rfl | cases h
    exact s_add ha hb
  | sub =>
    obtain rfl : op = .Sub := by cases op <;> first | rfl | cases h
    exact s_sub ha hb
  | mul =>
    obtain rfl : op = .Mult := by cases op <;> first | rfl | cases h
    exact s_mul ha hb
  | fdiv =>
    obtain rfl : op = .FloorDiv := by cases op <;> first | rfl | cases h
    exact s_fdiv ha hb
  | mod =>
    obtain rfl : op = .Mod := by cases op <;> first | rfl | cases h
    exact s_mod ha hb
  | pow =>
    obtain rfl : op = .Pow := by cases op <;> first | rfl | cases h
    exact s_pow ha hb
theorem Stt.un (S : Stt X N cn fn sc k) : X.A.units + 66 < cLine := by have := S.room.un; omega
theorem cop_ok (S : Stt X N cn fn sc k) {o : COp} {op : CmpOp} (h : copB o op = true) : ∃ r, OpR X (compareOp op) r ∧ OpD X.K r o.d := by
  have un := S.un
  cases o with
  | «eq» =>
    obtain rfl : op = .Eq := by cases op <;> first | rfl | cases h
    exact ⟨_, op_eqD (by omega), eq_d⟩
  | «ne» =>
    obtain rfl : op = .NotEq := by cases op <;> first | rfl | cases h
    exact ⟨_, op_neD (by omega), ne_d⟩
  | «lt» =>
    obtain rfl : op = .Lt := by cases op <;> first | rfl | cases h
    exact ⟨_, op_lt, lt_d⟩
  | «le» =>
    obtain rfl : op = .LtE := by cases op <;> first | rfl | cases h
    exact ⟨_, op_le, le_d⟩
  | «gt» =>
    obtain rfl : op = .Gt := by cases op <;> first | rfl | cases h
    exact ⟨_, op_gt, gt_d⟩
  | «ge» =>
    obtain rfl : op = .GtE := by cases op <;> first | rfl | cases h
    exact ⟨_, op_ge, ge_d⟩
  | «is» =>
    obtain rfl : op = .Is := by cases op <;> first | rfl | cases h
    exact ⟨_, op_isN, is_d⟩
  | «isnt» =>
    obtain rfl : op = .IsNot := by cases op <;> first | rfl | cases h
    exact ⟨_, op_notN, isnt_d⟩
  | «isin» =>
    obtain rfl : op = .In := by cases op <;> first | rfl | cases h
    exact ⟨_, op_in2 (by omega), in_d⟩
  | «notin» =>
    obtain rfl : op = .NotIn := by cases op <;> first | rfl | cases h
    exact ⟨_, op_notin2 (by omega), in_d⟩
theorem chn_ok (S : Stt X N cn fn sc k) {o1 o2 : COp} {op1 op2 : CmpOp} {f1 f2 f3 : XE} (h1 : copB o1 op1 = true) (h2 : copB o2 op2 = true) (ha : PE X a (tE X.K f1)) (hb : PE X b (tE X.K f2)) (hc : PE X c (tE X.K f3)) (hm : noSet c = true) :
    PE X (.Compare a [op1, op2] [b, c] pos) (tE X.K (chn o1.d o2.d f1 f2 f3)) := by
  obtain ⟨r1, q1, d1⟩ := cop_ok S h1
  obtain ⟨r2, q2, d2⟩ := cop_ok S h2
  exact (pe_chain q1 q2 ha hb hc (set_marks hm)).imp fun σ H Q h => three d1 d2 h
theorem tchn_ok (S : Stt X N cn fn sc k) {o1 o2 : COp} {op1 op2 : CmpOp} {f1 f2 f3 : XE} (h1 : copB o1 op1 = true) (h2 : copB o2 op2 = true) (ha : PE X a (tE X.K f1)) (hb : PE X b (tE X.K f2)) (hc : PE X c (tE X.K f3)) (hm : noSet c = true) :
    PT X (.Compare a [op1, op2] [b, c] pos) (tT X.K (asB (chn o1.d o2.d f1 f2 f3))) := by
  obtain ⟨r1, q1, d1⟩ := cop_ok S h1
  obtain ⟨r2, q2, d2⟩ := cop_ok S h2
  exact (pt_chain q1 q2 ha hb hc (set_marks hm)).imp fun σ H Q h => three d1 d2 (tT_test h)
/-- the built-in functions of one argument -/
def F1.nm : F1 → Str
  | .len => "len" | .all => "all" | .any => "any" | .tuple => "tuple" | .list => "list" | .int => "int" | .abs => "abs" | .repr => "repr"
theorem f1_ok (S : Stt X N cn fn sc k) {f : F1} {e : Expr} {p : Pos} {g : XE} (hg : Gl X f.nm) (hm : X.mg f.nm = none) (hn : f.nm ≠ "__name__") (hd : (f.nm == ("__debug__" : Str)) = false) (ha : PE X e (tR X.K g)) (hs : noStar e = true) :
    PE X (.Call (.Name f.nm p) [e] [] pos) (tE X.K (un1 f.d g)) := by
  have un := S.un
  cases f with
  | len => exact s_fun1 call_len len_u hg hm PySem.boot_len ha hn hd (star_cons hs)
  | all => exact s_fun1 (cr_all S.calm) all_u hg hm (by kernel_rfl) ha hn hd (star_cons hs)
  | any => exact s_fun1 (cr_any S.calm) any_u hg hm (by kernel_rfl) ha hn hd (star_cons hs)
  | tuple => exact s_typ1 call_tuple_of tup_u hg hm (by kernel_rfl) ha hn hd (star_cons hs)
  | list => exact s_typ1 call_list_of lis_u hg hm (by kernel_rfl) ha hn hd (star_cons hs)
  | int => exact s_typ1 call_int1 int_u hg hm (by kernel_rfl) ha hn hd (star_cons hs)
  | abs => exact s_fun1 call_abs abs_u hg hm (by kernel_rfl) ha hn hd (star_cons hs)
  | repr => exact s_fun1 (call_repr_d S.gd un) repr_u hg hm (by kernel_rfl) ha hn hd (star_cons hs)
end
end EF

set_option Elab.async false
set_option linter.all false
set_option maxRecDepth 100000
/-! EF14: the check of a term against an expression, and what it is worth. -/
namespace EF
open PySem PySem.Spec PyProof.Rows L2

def constB : Const → PyData → Bool
  | .int i, .int j => decide (i = j)
  | .bool i, .bool j => decide (i = j)
  | .none, .none => true
  | .str x, .str y => decide (x = y)
  | _, _ => false
def T.st : T → Bool
  | .cv _ => false
  | _ => true
def T.isC : T → Bool
  | .cmp _ _ _ => true | .chn _ _ _ _ _ => true | .ty _ _ _ => true | .cnil _ _ => true | _ => false
def B.ch : B → Bool
  | .and _ _ => true | .or _ _ => true | .one _ => true | _ => false
def B.isY : B → Bool
  | .yes => true | _ => false
def posLine (a b : Pos) : Bool := a.endLine == b.line
/-- e is the name of slot i, to be stored -/
def stB (N : List Str) (fn : Str → Bool) (sc : Scope) (i : Nat) : Expr → Bool
  | .Name x _ => decide (N[i]? = some x) && locB fn sc x
  | _ => false
def namesB (N : List Str) (fn : Str → Bool) (sc : Scope) : List Nat → List Expr → Bool
  | [], [] => true
  | i :: is, e :: es => stB N fn sc i e && namesB N fn sc is es
  | _, _ => false
def tupB (N : List Str) (fn : Str → Bool) (sc : Scope) (is : List Nat) : Expr → Bool
  | .Tuple es _ _ => namesB N fn sc is es
  | _ => false
def G.ck (N : List Str) (fn : Str → Bool) (sc : Scope) : G → Expr → Bool
  | .nm i, e => stB N fn sc i e
  | .tp is, e => tupB N fn sc is e
def isTup : Expr → Bool
  | .Tuple _ _ _ => true | _ => false
def kwNames : List Str → List Keyword → Bool
  | [], [] => true
  | x :: xs, ⟨some y, _, _⟩ :: ks => decide (x = y) && kwNames xs ks
  | _, _ => false
def tyOpB : Bool → CmpOp → Bool
  | true, .NotEq => true | false, .Eq => true | _, _ => false
/-- the built-in type of this name stands for e -/
def tyNmB (sc : Scope) (n : String) (e : Expr) : Bool := bnB sc (Str.ofString n) e && decide (bootBuiltins (Str.ofString n) = some (.type n))
section
variable (N : List Str) (cn : List (Str × Int))
mutual
def T.ck : T → (Str → Bool) → Scope → Expr → Bool
  | .k d, _, _, e => (match e with | .Constant c _ _ => constB c d | _ => false)
  | .g i, _, sc, e => (match e with | .Name x _ => glB sc x && okN x && decide ((x, i) ∈ cn) | _ => false)
  | .v i, _, sc, e => nmB N sc i e
  | .cv i, _, sc, e => nmB N sc i e
  | .bin o a b, fn, sc, e => (match e with | .BinOp l op r _ => bopB o op && a.st && b.st && a.ck fn sc l && b.ck fn sc r | _ => false)
  | .neg a, fn, sc, e => (match e with | .UnaryOp .USub x _ => a.st && a.ck fn sc x | _ => false)
  | .cmp o a b, fn, sc, e => (match e with | .Compare l [op] [r] _ => copB o op && noSet r && a.st && a.ck fn sc l && b.ck fn sc r | _ => false)
  | .chn o1 o2 a b c, fn, sc, e => (match e with | .Compare l [p1, p2] [m, r] _ => copB o1 p1 && copB o2 p2 && noSet r && a.st && b.st && c.st && a.ck fn sc l && b.ck fn sc m && c.ck fn sc r | _ => false)
  | .and a b, fn, sc, e => (match e with | .BoolOp .And (x :: y :: rest) pos => a.st && b.st && a.ck fn sc x && b.ck fn sc (.BoolOp .And (y :: rest) pos) | _ => false)
  | .or a b, fn, sc, e => (match e with | .BoolOp .Or (x :: y :: rest) pos => a.st && b.st && a.ck fn sc x && b.ck fn sc (.BoolOp .Or (y :: rest) pos) | _ => false)
  | .one a, fn, sc, e => (match e with | .BoolOp _ [x] _ => a.st && a.ck fn sc x | _ => false)
  | .not a, fn, sc, e => (match e with | .UnaryOp .Not x _ => a.st && a.ck fn sc x | _ => false)
  | .ite c a b, fn, sc, e => (match e with | .IfExp t x y _ => a.st && b.st && c.ck fn sc t && a.ck fn sc x && b.ck fn sc y | _ => false)
  | .tup es, fn, sc, e => (match e with | .Tuple xs _ _ => xs.all noStar && es.ck fn sc xs | _ => false)
  | .lst es, fn, sc, e => (match e with | .List xs _ => xs.all noStar && es.ck fn sc xs | _ => false)
  | .ix a b, fn, sc, e => (match e with | .Subscript x y _ => ixE y && a.st && a.ck fn sc x && b.ck fn sc y | _ => false)
  | .cix i b, fn, sc, e => (match e with | .Subscript x y _ => ixE y && b.st && nmB N sc i x && b.ck fn sc y | _ => false)
  | .sli a lo hi, fn, sc, e => (match e with | .Subscript x (.Slice l h none _) _ => a.st && a.ck fn sc x && lo.ck fn sc l && hi.ck fn sc h | _ => false)
  | .csli i lo hi, fn, sc, e => (match e with | .Subscript x (.Slice l h none _) _ => nmB N sc i x && lo.ck fn sc l && hi.ck fn sc h | _ => false)
  | .f1 f a, fn, sc, e => (match e with | .Call x [y] [] _ => bnB sc f.nm x && noStar y && a.ck fn sc y | _ => false)
  | .ty neg n a, fn, sc, e => (match e with | .Compare (.Call x [y] [] _) [op] [r] _ => tyOpB neg op && bnB sc "type" x && noStar y && decide (n ∈ tyNames) && tyNmB sc n r && a.ck fn sc y | _ => false)
  | .isi n a, fn, sc, e => (match e with | .Call x [y, r] [] _ => bnB sc "isinstance" x && noStar y && decide (n ∈ isTys) && tyNmB sc n r && a.st && a.ck fn sc y | _ => false)
  | .call x _ args, fn, sc, e => (match e with | .Call (.Name y _) (z :: zs) [] _ => decide (y = x) && glB sc y && okN y && (z :: zs).all noStar && args.ck fn sc (z :: zs) | _ => false)
  | .callk x _ n ks pi args kws, fn, sc, e => (match e with
      | .Call (.Name y _) zs kw _ => decide (y = x) && glB sc y && okN y && zs.all noStar && kwNames ks kw && decide (args.len = n) && args.ck fn sc zs && kws.ckK fn sc kw
      | _ => false)
  | .comp it tg test elt own, fn, sc, e => (match e with
      | .ListComp el [⟨tgE, itE, ifs, as⟩] scope _ => decide (as = 0) && blkC N sc scope own && (match scope.kind with | .function => true | _ => false) && noSet itE && tg.is.all (fun i => decide (i ∈ own.map (·.2))) && tg.ck N (fun x => scope.names.lookup x == some .cell) (relS scope sc) tgE &&
          it.ck fn sc tgE itE && elt.st && (match ifs with | [] => test.isY | [c] => test.ck (fun x => scope.names.lookup x == some .cell) (relS scope sc) c | _ => false) && elt.ck (fun x => scope.names.lookup x == some .cell) (relS scope sc) el
      | _ => false)
  | .slen it tg elt own, fn, sc, e => (match e with
      | .Call x [.SetComp el [⟨tgE, itE, [], as⟩] scope _] [] _ => bnB sc "len" x && decide (as = 0) && blkC N sc scope own && (match scope.kind with | .function => true | _ => false) && noSet itE && tg.is.all (fun i => decide (i ∈ own.map (·.2))) && tg.ck N (fun x => scope.names.lookup x == some .cell) (relS scope sc) tgE &&
          it.ck fn sc tgE itE && elt.st && elt.ck (fun x => scope.names.lookup x == some .cell) (relS scope sc) el
      | _ => false)
  | .pop i a, fn, sc, e => (match e with | .Call (.Attribute o x ap) [y] [] cp => decide (x = "pop") && nmB N sc i o && noStar y && posLine ap cp && a.st && a.ck fn sc y | _ => false)
  | .lens a, fn, sc, e => (match e with | .Call x [.Call x2 [y] [] _] [] _ => bnB sc "len" x && bnB sc "set" x2 && noStar y && a.ck fn sc y | _ => false)
  | .sst a, fn, sc, e => (match e with | .Call x [.Call x2 [y] [] _] [] _ => bnB sc "sorted" x && bnB sc "set" x2 && noStar y && a.ck fn sc y | _ => false)
  | .cnil neg i, _, sc, e => (match e with | .Compare l [op] [.List [] _] _ => tyOpB neg op && nmB N sc i l | _ => false)
def B.ck : B → (Str → Bool) → Scope → Expr → Bool
  | .e a, fn, sc, e => a.st && (plainE e || a.isC) && a.ck fn sc e
  | .not a, fn, sc, e => (match e with | .UnaryOp .Not x _ => a.ck fn sc x | _ => false)
  | .and a b, fn, sc, e => (match e with | .BoolOp .And (x :: y :: rest) pos => b.ch && a.ck fn sc x && b.ck fn sc (.BoolOp .And (y :: rest) pos) | _ => false)
  | .or a b, fn, sc, e => (match e with | .BoolOp .Or (x :: y :: rest) pos => b.ch && a.ck fn sc x && b.ck fn sc (.BoolOp .Or (y :: rest) pos) | _ => false)
  | .one a, fn, sc, e => (match e with | .BoolOp _ [x] _ => a.ck fn sc x | _ => false)
  | .yes, _, _, _ => false
def I.ck : I → (Str → Bool) → Scope → Expr → Expr → Bool
  | .e a, fn, sc, _, e => a.st && a.ck fn sc e
  | .cell i, _, sc, _, e => nmB N sc i e
  | .rng1 a, fn, sc, _, e => (match e with | .Call x [y] [] _ => bnB sc "range" x && noStar y && a.st && a.ck fn sc y | _ => false)
  | .rng2 a b, fn, sc, _, e => (match e with | .Call x [y, z] [] _ => bnB sc "range" x && noStar y && noStar z && a.st && b.st && a.ck fn sc y && b.ck fn sc z | _ => false)
  | .enum a, fn, sc, tg, e => isTup tg && (match e with | .Call x [y] [] _ => bnB sc "enumerate" x && noStar y && a.st && a.ck fn sc y | _ => false)
  | .zip2 a b, fn, sc, tg, e => isTup tg && (match e with | .Call x [y, z] [] _ => bnB sc "zip" x && noStar y && noStar z && a.st && b.st && a.ck fn sc y && b.ck fn sc z | _ => false)
  | .zip3 a b c, fn, sc, tg, e => isTup tg && (match e with | .Call x [y, z, u] [] _ => bnB sc "zip" x && noStar y && noStar z && noStar u && a.st && b.st && c.st && a.ck fn sc y && b.ck fn sc z && c.ck fn sc u | _ => false)
def As.ck : As → (Str → Bool) → Scope → List Expr → Bool
  | .nil, _, _, es => (match es with | [] => true | _ => false)
  | .cons a r, fn, sc, es => (match es with | e :: es => a.st && a.ck fn sc e && r.ck fn sc es | _ => false)
def Ws.ck : Ws → (Str → Bool) → Scope → List Expr → Bool
  | .nil, _, _, es => (match es with | [] => true | _ => false)
  | .dat a r, fn, sc, es => (match es with | e :: es => a.st && a.ck fn sc e && r.ck fn sc es | _ => false)
  | .cel i r, fn, sc, es => (match es with | e :: es => nmB N sc i e && r.ck fn sc es | _ => false)
def Ws.ckK : Ws → (Str → Bool) → Scope → List Keyword → Bool
  | .nil, _, _, es => (match es with | [] => true | _ => false)
  | .dat a r, fn, sc, es => (match es with | ⟨_, e, _⟩ :: es => a.st && a.ck fn sc e && r.ckK fn sc es | _ => false)
  | .cel i r, fn, sc, es => (match es with | ⟨_, e, _⟩ :: es => nmB N sc i e && r.ckK fn sc es | _ => false)
def O.ck : O → (Str → Bool) → Scope → Option Expr → Bool
  | .none, _, _, e => (match e with | none => true | _ => false)
  | .some a, fn, sc, e => (match e with | some x => a.st && a.ck fn sc x | none => false)
end
end
end EF

set_option Elab.async false
set_option linter.all false
set_option maxRecDepth 100000
/-! EF15: what the check is worth, for expressions. -/
namespace EF
open PySem PySem.Spec PyProof.Rows L2

theorem Stt.blk {X : Cx} {N : List Str} {cn : List (Str × Int)} {fn : Str → Bool} {sc : Scope} {k : Nat} (S : Stt X N cn fn sc k) {scope : Scope} (hk : scope.kind = .function) (s : Shared) (H : Hp) (C : Addr) (cl : List (Str × Addr)) (fp : List Addr) :
    Stt (X.blk s H scope (compEnvC scope cl C X.env) fp) N cn (fun x => scope.names.lookup x == some .cell) (relS scope sc) k where
  hN := S.hN
  nd := S.nd
  hsc := by
    have e : (compEnvC scope cl C X.env).scope = relS scope X.env.scope := rfl
    show (compEnvC scope cl C X.env).scope = _
    rw [e, S.hsc]
  kd := hk
  hfn := rfl
  calm := S.calm
  gd := S.gd
  room := S.room
  xe := rfl
  blt := S.blt
  con := S.con
structure TOk (X : Cx) (e : Expr) (a : T) : Prop where
  w : PE X e (tR X.K a.ev)
  s : a.st = true → PE X e (tE X.K a.ev)
  t : a.isC = true → PT X e (tT X.K (asB a.ev))
theorem TOk.of {X : Cx} {e : Expr} {t : T} (h : PE X e (tE X.K t.ev)) (q : t.isC = false) : TOk X e t := ⟨s_weak h, fun _ => h, fun z => by rw [q] at z; cases z⟩
theorem TOk.ofC {X : Cx} {e : Expr} {t : T} (h : PE X e (tE X.K t.ev)) (q : PT X e (tT X.K (asB t.ev))) : TOk X e t := ⟨s_weak h, fun _ => h, fun _ => q⟩
structure BOk (X : Cx) (e : Expr) (b : B) : Prop where
  t : PT X e (tT X.K b.ev)
  w : b.ch = true → PW X e (tT X.K b.ev)
theorem gl_ok {X : Cx} {N : List Str} {cn : List (Str × Int)} {fn : Str → Bool} {sc : Scope} {k : Nat} (S : Stt X N cn fn sc k) {x : Str} (h : glB sc x = true) : Gl X x := by
  show X.env.scope.names.lookup x = _
  rw [S.hsc]
  exact gl_of h
theorem ty_ok {X : Cx} {N : List Str} {cn : List (Str × Int)} {fn : Str → Bool} {sc : Scope} {k : Nat} (S : Stt X N cn fn sc k) {n : String} {e : Expr} (h : tyNmB sc n e = true) : ∃ p, e = .Name (Str.ofString n) p ∧ PE X e (tC (.ty n)) := by
  simp only [tyNmB, Bool.and_eq_true, decide_eq_true_eq] at h
  obtain ⟨p, rfl, hg, hm, hn, hd⟩ := bn_ok S h.1
  exact ⟨p, rfl, pe_bltn (v := .ty n) hg hm h.2 rfl hn hd⟩
theorem bool4 {a b : Bool} (h : (a && b) = true) : a = true ∧ b = true := by rwa [Bool.and_eq_true] at h
theorem st_ok {X : Cx} {N : List Str} {cn : List (Str × Int)} {fn : Str → Bool} {sc : Scope} {k : Nat} (S : Stt X N cn fn sc k) {i : Nat} {e : Expr} (h : stB N fn sc i e = true) :
    ∃ x pos, e = .Name x pos ∧ X.N[i]? = some x ∧ Loc X.env.scope x ∧ (X.fn x = true ∨ X.env.scope.names.lookup x = some .local) := by
  unfold stB at h
  split at h
  · obtain ⟨h1, h2⟩ := bool4 h
    obtain ⟨l1, l2⟩ := loc_of h2
    exact ⟨_, _, rfl, by rw [S.hN]; exact of_decide_eq_true h1, by rw [S.hsc]; exact l1, by rw [S.hfn, S.hsc]; exact l2⟩
  · cases h
theorem Stt.ndX {X : Cx} {N : List Str} {cn : List (Str × Int)} {fn : Str → Bool} {sc : Scope} {k : Nat} (S : Stt X N cn fn sc k) : X.N.Nodup := by rw [S.hN]; exact S.nd
theorem names_ok {X : Cx} {N : List Str} {cn : List (Str × Int)} {fn : Str → Bool} {sc : Scope} {k : Nat} (S : Stt X N cn fn sc k) : ∀ {is : List Nat} {es : List Expr}, namesB N fn sc is es = true →
    PGs X es (gNames is) ∧ (assignEach es X.env).length = is.length ∧ (assignEach es X.env).findIdx? (·.1) = none
  | [], [], _ => ⟨pgs_nil, rfl, rfl⟩
  | i :: is, e :: es, h => by
    unfold namesB at h
    obtain ⟨h1, h3⟩ := bool4 h
    obtain ⟨q1, q2, q3⟩ := names_ok S h3
    obtain ⟨x, pos, rfl, l0, l1, l2⟩ := st_ok S h1
    refine ⟨pgs_cons (pg_name (i := i) S.ndX l0 l1 l2) q1 rfl, ?_, ?_⟩
    · show (assignEach es X.env).length + 1 = is.length + 1
      rw [q2]
    · show List.findIdx? (·.1) ((false, assign (.Name x pos) X.env) :: assignEach es X.env) = none
      rw [List.findIdx?_cons]
      simp [q3]
  | [], _ :: _, h => by cases h
  | _ :: _, [], h => by cases h
theorem g_ok {X : Cx} {N : List Str} {cn : List (Str × Int)} {fn : Str → Bool} {sc : Scope} {k : Nat} (S : Stt X N cn fn sc k) {g : G} {e : Expr} (h : g.ck N fn sc e = true) : PG X e (tG X.K g) := by
  cases g with
  | nm i =>
    obtain ⟨x, pos, rfl, l0, l1, l2⟩ := st_ok S (show stB N fn sc i e = true from h)
    exact s_gname (pg_name (i := i) S.ndX l0 l1 l2)
  | tp is =>
    have h : tupB N fn sc is e = true := h
    unfold tupB at h
    split at h
    · obtain ⟨q1, q2, q3⟩ := names_ok S h
      exact s_gtup S.calm q1 q2 q3
    · cases h
theorem ws_len (K : PySem.W.Frag) : ∀ (a : Ws) (ρ : Rho) (st : Sto) (ws : List W) (s : Sto), a.ev ρ st = some (ws, s) → ws.length = a.len
  | .nil, ρ, st, ws, s, h => by
    have h' : nilW ρ st = some (ws, s) := by simpa only [Ws.ev] using h
    have h2 : (pure [] : M (List W)) st = some (ws, s) := h'
    obtain ⟨rfl, _⟩ := pure_some h2
    rfl
  | .dat a r, ρ, st, ws, s, h => by
    have h' : consW (datW a.ev) r.ev ρ st = some (ws, s) := by simpa only [Ws.ev] using h
    obtain ⟨x, s1, e1, e2⟩ := bind_some h'
    obtain ⟨xs, s2, e3, e4⟩ := bind_some e2
    obtain ⟨rfl, _⟩ := pure_some e4
    show xs.length + 1 = r.len + 1
    rw [ws_len K r _ _ _ _ e3]
  | .cel i r, ρ, st, ws, s, h => by
    have h' : consW (celW i) r.ev ρ st = some (ws, s) := by simpa only [Ws.ev] using h
    obtain ⟨x, s1, e1, e2⟩ := bind_some h'
    obtain ⟨xs, s2, e3, e4⟩ := bind_some e2
    obtain ⟨rfl, _⟩ := pure_some e4
    show xs.length + 1 = r.len + 1
    rw [ws_len K r _ _ _ _ e3]
theorem ws_es : ∀ (N : List Str) (cn : List (Str × Int)) (a : Ws) (fn : Str → Bool) (sc : Scope) (es : List Expr), a.ck N cn fn sc es = true → es.length = a.len
  | N, cn, .nil, fn, sc, es, h => by
    unfold Ws.ck at h
    split at h
    · rfl
    · cases h
  | N, cn, .dat a r, fn, sc, es, h => by
    unfold Ws.ck at h
    split at h
    · obtain ⟨_, h⟩ := bool4 h
      show _ + 1 = r.len + 1
      rw [ws_es N cn r fn sc _ h]
    · cases h
  | N, cn, .cel i r, fn, sc, es, h => by
    unfold Ws.ck at h
    split at h
    · obtain ⟨_, h⟩ := bool4 h
      show _ + 1 = r.len + 1
      rw [ws_es N cn r fn sc _ h]
    · cases h
theorem kw_all {pos : Pos} {env : Env} : ∀ {ks : List Str} {kw : List Keyword}, kwNames ks kw = true →
    (backToKw pos (keywordEach kw env)).all (·.1.isSome) = true ∧ (backToKw pos (keywordEach kw env)).filterMap (·.1) = ks ∧ (backToKw pos (keywordEach kw env)).any (·.1.isNone) = false
  | [], [], _ => ⟨rfl, rfl, rfl⟩
  | x :: xs, ⟨some y, e, p⟩ :: ks, h => by
    unfold kwNames at h
    obtain ⟨h1, h2⟩ := bool4 h
    have e1 := of_decide_eq_true h1
    subst e1
    obtain ⟨q1, q2, q3⟩ := kw_all (pos := pos) (env := env) h2
    refine ⟨?_, ?_, ?_⟩
    · show (true && (backToKw pos (keywordEach ks env)).all (·.1.isSome)) = true
      rw [q1]; rfl
    · show x :: (backToKw pos (keywordEach ks env)).filterMap (·.1) = x :: xs
      rw [q2]
    · show (false || (backToKw pos (keywordEach ks env)).any (·.1.isNone)) = false
      rw [q3]; rfl
  | [], _ :: _, h => by cases h
  | _ :: _, [], h => by cases h
  | _ :: _, ⟨none, _, _⟩ :: _, h => by cases h
end EF

set_option Elab.async false
set_option linter.all false
set_option maxRecDepth 100000
/-! EF16: terms stand for the expressions that they are checked against. -/
namespace EF
open PySem PySem.Spec PyProof.Rows L2

section
variable {N : List Str} {cn : List (Str × Int)} {k : Nat}
set_option maxHeartbeats 1000000
/-- a comprehension as a new list -/
theorem comp_okF {it : I} {tg : G} {test : B} {elt : T} {own : List (Str × Nat)} {X : Cx} {fn : Str → Bool} {sc : Scope} {e : Expr} (S : Stt X N cn fn sc k)
    (hn : Hasall X k (T.comp it tg test elt own).need) (h : (T.comp it tg test elt own).ck N cn fn sc e = true)
    (rI : ∀ (X : Cx) (fn : Str → Bool) (sc : Scope) (tg e : Expr), Stt X N cn fn sc k → Hasall X k it.need → it.ck N cn fn sc tg e = true → PI X tg e (tI X.K it.ev))
    (rB : ∀ (X : Cx) (fn : Str → Bool) (sc : Scope) (e : Expr), Stt X N cn fn sc k → Hasall X k test.need → test.ck N cn fn sc e = true → BOk X e test)
    (rT : ∀ (X : Cx) (fn : Str → Bool) (sc : Scope) (e : Expr), Stt X N cn fn sc k → Hasall X k elt.need → elt.ck N cn fn sc e = true → TOk X e elt) :
    PE X e (tF X.K (T.comp it tg test elt own).evF) := by
  unfold T.ck at h
  split at h
  · rename_i el tgE itE ifs as scope pos
    simp only [Bool.and_eq_true, decide_eq_true_eq] at h
    obtain ⟨⟨⟨⟨⟨⟨⟨⟨⟨rfl, h1⟩, h2⟩, h3⟩, h4⟩, h5⟩, h6⟩, h7⟩, h8⟩, h9⟩ := h
    have kd : scope.kind = .function := by
      split at h2
      · assumption
      · cases h2
    have bo : BlkOk X.N X.env.scope scope own := by rw [S.hN, S.hsc]; exact blkOk_by h1
    have hi := rI X fn sc tgE itE S hn.l h6
    have Sb := fun (s : Shared) (H : Hp) (C : Addr) (cl : List (Str × Addr)) (fp : List Addr) => S.blk kd s H C cl fp
    have hg : ∀ i ∈ tg.is, i ∈ own.map (·.2) := fun i hi => of_decide_eq_true (List.all_eq_true.mp h4 i hi)
    have he : ∀ (s : Shared) (H : Hp) (C : Addr) (cl : List (Str × Addr)) (fp : List Addr), PE (X.blk s H scope (compEnvC scope cl C X.env) fp) el (tE X.K elt.ev) := fun s H C cl fp =>
      (rT _ _ _ _ (Sb s H C cl fp) (fun q m => hn q (List.mem_append_right _ (List.mem_append_right _ m))) h9).s h7
    have hgg : ∀ (s : Shared) (H : Hp) (C : Addr) (cl : List (Str × Addr)) (fp : List Addr), PG (X.blk s H scope (compEnvC scope cl C X.env) fp) tgE (tG X.K tg) := fun s H C cl fp => g_ok (Sb s H C cl fp) h5
    show PE X _ (tF X.K (lcF it.ev tg test.ev elt.ev (own.map (·.2))))
    split at h8
    · cases test with
      | yes =>
        refine (pe_lc S.calm S.ndX hi bo hgg (fun _ _ _ _ _ => pts_nil) he (set_fold h3)).imp fun σ H Q q => lc_ok hg (fun σ H Q ⟨ρ, cs, st, b, st', sl, so, ev, kk⟩ => ?_) q
        have ev2 : (pure true : M Bool) st = some (b, st') := by simpa only [B.ev] using ev
        obtain ⟨rfl, rfl⟩ := pure_some ev2
        exact kk H cs .refl so
      | e _ => cases h8
      | not _ => cases h8
      | and _ _ => cases h8
      | or _ _ => cases h8
      | one _ => cases h8
    · exact (pe_lc S.calm S.ndX hi bo hgg (fun s H C cl fp => pts_one (rB _ _ _ _ (Sb s H C cl fp) (fun q m => hn q (List.mem_append_right _ (List.mem_append_left _ m))) h8).t) he (set_fold h3)).imp fun σ H Q q => lc_ok hg (fun σ H Q q => q) q
    · cases h8
  · cases h
mutual
theorem T.ok : ∀ (t : T) (X : Cx) (fn : Str → Bool) (sc : Scope) (e : Expr), Stt X N cn fn sc k → Hasall X k t.need → t.ck N cn fn sc e = true → TOk X e t
  | .k d, X, fn, sc, e, S, hn, h => by
    unfold T.ck at h
    split at h
    · rename_i c kk pos
      refine .of ?_ rfl
      show PE X _ (tE X.K fun _ => pure d)
      unfold constB at h
      split at h
      · rw [← of_decide_eq_true h]; exact s_int
      · rw [← of_decide_eq_true h]; exact s_bool
      · exact s_none
      · rw [← of_decide_eq_true h]; exact s_str
      · cases h
    · cases h
  | .g i, X, fn, sc, e, S, hn, h => by
    unfold T.ck at h
    split at h
    · rename_i x pos
      simp only [okN, Bool.and_eq_true, decide_eq_true_eq] at h
      obtain ⟨⟨h1, ⟨h2, h3⟩, h4⟩, h5⟩ := h
      obtain ⟨t, ht⟩ := S.con _ h5
      exact .of (s_glob (gl_ok S h1) ht h2) rfl
    · cases h
  | .v i, X, fn, sc, e, S, hn, h => by
    have h : nmB N sc i e = true := by simpa only [T.ck] using h
    exact .of (s_var (nm_ok S h)) rfl
  | .cv i, X, fn, sc, e, S, hn, h => by
    have h : nmB N sc i e = true := by simpa only [T.ck] using h
    exact ⟨s_cvar (nm_ok S h), fun q => (by cases q), fun q => (by cases q)⟩
  | .bin o a b, X, fn, sc, e, S, hn, h => by
    unfold T.ck at h
    split at h
    · simp only [Bool.and_eq_true] at h
      obtain ⟨⟨⟨⟨h1, h2⟩, h3⟩, h4⟩, h5⟩ := h
      exact .of (bop_ok h1 ((T.ok a X fn sc _ S hn.l h4).s h2) ((T.ok b X fn sc _ S hn.r h5).s h3)) rfl
    · cases h
  | .neg a, X, fn, sc, e, S, hn, h => by
    unfold T.ck at h
    split at h
    · simp only [Bool.and_eq_true] at h
      exact .of (s_neg ((T.ok a X fn sc _ S hn h.2).s h.1)) rfl
    · cases h
  | .cmp o a b, X, fn, sc, e, S, hn, h => by
    unfold T.ck at h
    split at h
    · simp only [Bool.and_eq_true] at h
      obtain ⟨⟨⟨⟨h1, h2⟩, h3⟩, h4⟩, h5⟩ := h
      obtain ⟨r, q1, q2⟩ := cop_ok S h1
      have qa := (T.ok a X fn sc _ S hn.l h4).s h3
      have qb := (T.ok b X fn sc _ S hn.r h5).w
      exact .ofC (s_cmp q1 q2 qa qb (set_marks h2)) (s_tcmp q1 q2 qa qb (set_marks h2))
    · cases h
  | .chn o1 o2 a b c, X, fn, sc, e, S, hn, h => by
    unfold T.ck at h
    split at h
    · simp only [Bool.and_eq_true] at h
      obtain ⟨⟨⟨⟨⟨⟨⟨⟨h1, h2⟩, h3⟩, h4⟩, h5⟩, h6⟩, h7⟩, h8⟩, h9⟩ := h
      have qa := (T.ok a X fn sc _ S hn.l h7).s h4
      have qb := (T.ok b X fn sc _ S hn.r.l h8).s h5
      have qc := (T.ok c X fn sc _ S hn.r.r h9).s h6
      exact .ofC (chn_ok S h1 h2 qa qb qc h3) (tchn_ok S h1 h2 qa qb qc h3)
    · cases h
  | .and a b, X, fn, sc, e, S, hn, h => by
    unfold T.ck at h
    split at h
    · simp only [Bool.and_eq_true] at h
      obtain ⟨⟨⟨h1, h2⟩, h3⟩, h4⟩ := h
      exact .of (s_and ((T.ok a X fn sc _ S hn.l h3).s h1) ((T.ok b X fn sc _ S hn.r h4).s h2)) rfl
    · cases h
  | .or a b, X, fn, sc, e, S, hn, h => by
    unfold T.ck at h
    split at h
    · simp only [Bool.and_eq_true] at h
      obtain ⟨⟨⟨h1, h2⟩, h3⟩, h4⟩ := h
      exact .of (s_or ((T.ok a X fn sc _ S hn.l h3).s h1) ((T.ok b X fn sc _ S hn.r h4).s h2)) rfl
    · cases h
  | .one a, X, fn, sc, e, S, hn, h => by
    unfold T.ck at h
    split at h
    · simp only [Bool.and_eq_true] at h
      exact .of (s_one ((T.ok a X fn sc _ S hn h.2).s h.1)) rfl
    · cases h
  | .not a, X, fn, sc, e, S, hn, h => by
    unfold T.ck at h
    split at h
    · simp only [Bool.and_eq_true] at h
      exact .of (s_not ((T.ok a X fn sc _ S hn h.2).s h.1)) rfl
    · cases h
  | .ite c a b, X, fn, sc, e, S, hn, h => by
    unfold T.ck at h
    split at h
    · simp only [Bool.and_eq_true] at h
      obtain ⟨⟨⟨⟨h1, h2⟩, h3⟩, h4⟩, h5⟩ := h
      exact .of (s_ite (B.ok c X fn sc _ S hn.l h3).t ((T.ok a X fn sc _ S hn.r.l h4).s h1) ((T.ok b X fn sc _ S hn.r.r h5).s h2)) rfl
    · cases h
  | .tup es, X, fn, sc, e, S, hn, h => by
    unfold T.ck at h
    split at h
    · simp only [Bool.and_eq_true] at h
      exact .of (s_tup (As.ok es X fn sc _ S hn h.2 h.1)) rfl
    · cases h
  | .lst es, X, fn, sc, e, S, hn, h => by
    unfold T.ck at h
    split at h
    · simp only [Bool.and_eq_true] at h
      exact .of (s_fresh (s_lstF (As.ok es X fn sc _ S hn h.2 h.1))) rfl
    · cases h
  | .ix a b, X, fn, sc, e, S, hn, h => by
    unfold T.ck at h
    split at h
    · simp only [Bool.and_eq_true] at h
      obtain ⟨⟨⟨h1, h2⟩, h3⟩, h4⟩ := h
      exact .of (s_ix ((ix_list.or (ix_tup.or ix_str))) ix_d ((T.ok a X fn sc _ S hn.l h3).s h2) (T.ok b X fn sc _ S hn.r h4).w (ix_plain h1)) rfl
    · cases h
  | .cix i b, X, fn, sc, e, S, hn, h => by
    unfold T.ck at h
    split at h
    · simp only [Bool.and_eq_true] at h
      obtain ⟨⟨⟨h1, h2⟩, h3⟩, h4⟩ := h
      exact .of (s_cix (nm_ok S h3) ((T.ok b X fn sc _ S hn h4).s h2) (ix_plain h1)) rfl
    · cases h
  | .sli a lo hi, X, fn, sc, e, S, hn, h => by
    unfold T.ck at h
    split at h
    · simp only [Bool.and_eq_true] at h
      obtain ⟨⟨⟨h1, h2⟩, h3⟩, h4⟩ := h
      exact .of (s_sli ((T.ok a X fn sc _ S hn.l h2).s h1) (O.ok lo X fn sc _ S hn.r.l h3) (O.ok hi X fn sc _ S hn.r.r h4)) rfl
    · cases h
  | .csli i lo hi, X, fn, sc, e, S, hn, h => by
    unfold T.ck at h
    split at h
    · simp only [Bool.and_eq_true] at h
      obtain ⟨⟨h1, h3⟩, h4⟩ := h
      exact .of (s_csli (nm_ok S h1) (O.ok lo X fn sc _ S hn.l h3) (O.ok hi X fn sc _ S hn.r h4)) rfl
    · cases h
  | .f1 f a, X, fn, sc, e, S, hn, h => by
    unfold T.ck at h
    split at h
    · simp only [Bool.and_eq_true] at h
      obtain ⟨⟨h1, h2⟩, h3⟩ := h
      obtain ⟨p, rfl, g1, g2, g3, g4⟩ := bn_ok S h1
      exact .of (f1_ok S g1 g2 g3 g4 (T.ok a X fn sc _ S hn h3).w h2) rfl
    · cases h
  | .ty neg n a, X, fn, sc, e, S, hn, h => by
    unfold T.ck at h
    split at h
    · simp only [Bool.and_eq_true] at h
      obtain ⟨⟨⟨⟨⟨h1, h2⟩, h3⟩, h4⟩, h5⟩, h6⟩ := h
      obtain ⟨p, rfl, g1, g2, g3, g4⟩ := bn_ok S h2
      obtain ⟨p2, rfl, hN⟩ := ty_ok S h5
      have qa := (T.ok a X fn sc _ S hn h6).w
      have hT := of_decide_eq_true h4
      have hc : ∀ {pos}, PE X (.Call (.Name "type" p) [_] [] pos) (tCB (rTyp X.K) (tCons (tR X.K a.ev) tNil)) := fun {pos} => pe_callTy call_type1 g1 g2 (by kernel_rfl) (pa_cons qa pa_nil (star_cons h3)) g3 g4 (star_cons h3) rfl
      unfold tyOpB at h1
      split at h1
      · exact .ofC (s_ty (neg := true) op_tyNe rfl hT hc hN) (s_tty (neg := true) op_tyNe rfl hT hc hN)
      · exact .ofC (s_ty (neg := false) op_tyEq rfl hT hc hN) (s_tty (neg := false) op_tyEq rfl hT hc hN)
      · cases h1
    · cases h
  | .isi n a, X, fn, sc, e, S, hn, h => by
    unfold T.ck at h
    split at h
    · simp only [Bool.and_eq_true] at h
      obtain ⟨⟨⟨⟨⟨h2, h3⟩, h4⟩, h5⟩, h1⟩, h6⟩ := h
      obtain ⟨p, rfl, g1, g2, g3, g4⟩ := bn_ok S h2
      obtain ⟨p2, rfl, hN⟩ := ty_ok S h5
      have qa := (T.ok a X fn sc _ S hn h6).s h1
      exact .of (s_isi (of_decide_eq_true h4) (pe_callB call_isi g1 g2 (by kernel_rfl) (pa_cons qa (pa_cons hN pa_nil rfl) (star_cons h3)) g3 g4 (star_cons h3) rfl)) rfl
    · cases h
  | .call x g args, X, fn, sc, e, S, hn, h => by
    unfold T.ck at h
    split at h
    · rename_i y p z zs pos
      simp only [okN, Bool.and_eq_true, decide_eq_true_eq] at h
      obtain ⟨⟨⟨⟨rfl, h2⟩, ⟨h3, _⟩, _⟩, h4⟩, h5⟩ := h
      obtain ⟨f, fd, ps, q1, q2, q3, q4, q5⟩ := hn.hd
      have h4' := h4
      simp only [List.all_cons, Bool.and_eq_true] at h4'
      have qa := Ws.ok args X fn sc (z :: zs) S hn.tl h5 h4
      exact .of (s_call (ws_es _ _ _ _ _ _ h5) (pe_callg q5 S.gd S.room (gl_ok S h2) q1 q2 q3 qa h3 (star_cons h4'.1) (star_any h4'.2)) (ws_len X.K args)) rfl
    · cases h
  | .callk x g n ks pi args kws, X, fn, sc, e, S, hn, h => by
    unfold T.ck at h
    split at h
    · rename_i y p zs kw pos
      simp only [okN, Bool.and_eq_true, decide_eq_true_eq] at h
      obtain ⟨⟨⟨⟨⟨⟨⟨rfl, h2⟩, ⟨h3, _⟩, _⟩, h4⟩, h5⟩, h6⟩, h7⟩, h8⟩ := h
      obtain ⟨f, fd, ps, q1, q2, q3, q5⟩ := hn.hd
      have qa := Ws.ok args X fn sc zs S hn.tl.l h7 h4
      have qk := Ws.okK kws X fn sc kw S hn.tl.r h8
      obtain ⟨k1, k2, k3⟩ := kw_all (pos := pos) (env := X.env) h5
      refine .of ?_ rfl
      cases zs with
      | nil =>
        have hl : n = 0 := by
          have := ws_es _ _ _ _ _ _ h7
          rw [← h6, ← this]; rfl
        subst hl
        refine s_callk (t' := tNil) (fun σ H Q ⟨ρ, cs, st, ws, st', sl, so, ev, kk⟩ => ?_) rfl (pe_callgk0 q5 S.gd S.room (gl_ok S h2) q1 q2 q3 qk k1 k2 h3 (by rw [k3]; rfl))
        have e0 := ws_len X.K args _ _ _ _ ev
        rw [h6] at e0
        cases args with
        | nil =>
          have ev' : nilW ρ st = some (ws, st') := by simpa only [Ws.ev] using ev
          have ev2 : (pure [] : M (List W)) st = some (ws, st') := ev'
          obtain ⟨rfl, rfl⟩ := pure_some ev2
          exact kk [] H cs .refl so .nil
        | dat a r => simp [Ws.len] at h6
        | cel a r => simp [Ws.len] at h6
      | cons z zs =>
        have h4' := h4
        simp only [List.all_cons, Bool.and_eq_true] at h4'
        refine s_callk (t' := tW X.K args.ev) (fun σ H Q q => q) rfl (pe_callgk q5 S.gd S.room (gl_ok S h2) q1 q2 q3 qa qk k1 k2 h3 (star_cons h4'.1) ?_)
        rw [star_cons h4'.1]
        show ((false || (backTo pos (starEach zs X.env)).any (·.1)) || _) = false
        rw [star_any h4'.2, k3]; rfl
    · cases h
  | .comp it tg test elt own, X, fn, sc, e, S, hn, h => by
    have hf := comp_okF S hn h (I.ok it) (B.ok test) (T.ok elt)
    exact .of (s_fresh hf) rfl
  | .slen it tg elt own, X, fn, sc, e, S, hn, h => by
    unfold T.ck at h
    split at h
    · rename_i x el tgE itE as scope cpos pos
      simp only [Bool.and_eq_true, decide_eq_true_eq] at h
      obtain ⟨⟨⟨⟨⟨⟨⟨⟨⟨h0, rfl⟩, h1⟩, h2⟩, h3⟩, h4⟩, h5⟩, h6⟩, h7⟩, h9⟩ := h
      obtain ⟨p, rfl, g1, g2, g3, g4⟩ := bn_ok S h0
      have kd : scope.kind = .function := by
        split at h2
        · assumption
        · cases h2
      have bo : BlkOk X.N X.env.scope scope own := by rw [S.hN, S.hsc]; exact blkOk_by h1
      exact .of (s_slen S.calm S.ndX g1 g2 (I.ok it X fn sc tgE itE S hn.l h6) bo (fun i hi => of_decide_eq_true (List.all_eq_true.mp h4 i hi)) (fun s H C cl fp => g_ok (S.blk kd s H C cl fp) h5)
        (fun s H C cl fp => (T.ok elt _ _ _ _ (S.blk kd s H C cl fp) (fun q m => hn q (List.mem_append_right _ m)) h9).s h7) (set_fold h3)) rfl
    · cases h
  | .pop i a, X, fn, sc, e, S, hn, h => by
    unfold T.ck at h
    split at h
    · rename_i o x ap y cp
      simp only [Bool.and_eq_true, decide_eq_true_eq] at h
      obtain ⟨⟨⟨⟨⟨rfl, h2⟩, h3⟩, h4⟩, h5⟩, h6⟩ := h
      have qo := nm_ok S h2
      have qa := s_cons ((T.ok a X fn sc _ S hn h6).s h5) s_nil (star_cons h3)
      have hb : attributeBase o "pop" X.env (eval o X.env) = eval o X.env := by
        unfold nmB at h2
        split at h2
        · rfl
        · cases h2
      have hfew : ((backTo cp (starEach [y] X.env)).all (fun x => !x.1) && (backToKw cp (keywordEach [] X.env)).all (fun x => x.1.isSome)
      && decide ([y].length + ([] : List Keyword).length + (if ([] : List Keyword).isEmpty then 0 else 1) < 30)) = true := by
        rw [star_cons h3]; rfl
      exact .of (s_pop (pe_bm PySem.F.plainAttrs_list PySem.F.slot_list_pop PySem.F.type_list_pop mt_popAt qo qa hb hfew h4 (star_cons h3) rfl)) rfl
    · cases h
  | .lens a, X, fn, sc, e, S, hn, h => by
    unfold T.ck at h
    split at h
    · simp only [Bool.and_eq_true] at h
      obtain ⟨⟨⟨h1, h2⟩, h3⟩, h4⟩ := h
      obtain ⟨p, rfl, g1, g2, g3, g4⟩ := bn_ok S h1
      obtain ⟨p2, rfl, k1, k2, k3, k4⟩ := bn_ok S h2
      exact .of (s_lens S.calm g1 g2 k1 k2 (T.ok a X fn sc _ S hn h4).w (star_cons h3)) rfl
    · cases h
  | .sst a, X, fn, sc, e, S, hn, h => by
    unfold T.ck at h
    split at h
    · simp only [Bool.and_eq_true] at h
      obtain ⟨⟨⟨h1, h2⟩, h3⟩, h4⟩ := h
      obtain ⟨p, rfl, g1, g2, g3, g4⟩ := bn_ok S h1
      obtain ⟨p2, rfl, k1, k2, k3, k4⟩ := bn_ok S h2
      exact .of (s_sst S.calm (by have := S.un; omega) g1 g2 k1 k2 (T.ok a X fn sc _ S hn h4).w (star_cons h3)) rfl
    · cases h
  | .cnil neg i, X, fn, sc, e, S, hn, h => by
    unfold T.ck at h
    split at h
    · simp only [Bool.and_eq_true] at h
      obtain ⟨h1, h2⟩ := h
      have un := S.un
      unfold tyOpB at h1
      split at h1
      · exact .ofC (s_cnil (neg := true) (op_neD (by omega)) ne_d (nm_ok S h2)) (s_tcnil (neg := true) (op_neD (by omega)) ne_d (nm_ok S h2))
      · exact .ofC (s_cnil (neg := false) (op_eqD (by omega)) eq_d (nm_ok S h2)) (s_tcnil (neg := false) (op_eqD (by omega)) eq_d (nm_ok S h2))
      · cases h1
    · cases h
theorem B.ok : ∀ (t : B) (X : Cx) (fn : Str → Bool) (sc : Scope) (e : Expr), Stt X N cn fn sc k → Hasall X k t.need → t.ck N cn fn sc e = true → BOk X e t
  | .e a, X, fn, sc, e, S, hn, h => by
    unfold B.ck at h
    simp only [Bool.and_eq_true, Bool.or_eq_true] at h
    obtain ⟨⟨h1, h2⟩, h3⟩ := h
    have q := T.ok a X fn sc e S hn h3
    refine ⟨?_, fun z => by cases z⟩
    rcases h2 with h2 | h2
    · exact s_tval (q.s h1) (fun wh => plain_true h2 wh)
    · exact q.t h2
  | .not a, X, fn, sc, e, S, hn, h => by
    unfold B.ck at h
    split at h
    · exact ⟨s_tnot (B.ok a X fn sc _ S hn h).t, fun z => by cases z⟩
    · cases h
  | .and a b, X, fn, sc, e, S, hn, h => by
    unfold B.ck at h
    split at h
    · simp only [Bool.and_eq_true] at h
      obtain ⟨⟨h1, h2⟩, h3⟩ := h
      have q := s_wand (B.ok a X fn sc _ S hn.l h2).t ((B.ok b X fn sc _ S hn.r h3).w h1)
      exact ⟨q.pt, fun _ => q⟩
    · cases h
  | .or a b, X, fn, sc, e, S, hn, h => by
    unfold B.ck at h
    split at h
    · simp only [Bool.and_eq_true] at h
      obtain ⟨⟨h1, h2⟩, h3⟩ := h
      have q := s_wor (B.ok a X fn sc _ S hn.l h2).t ((B.ok b X fn sc _ S hn.r h3).w h1)
      exact ⟨q.pt, fun _ => q⟩
    · cases h
  | .one a, X, fn, sc, e, S, hn, h => by
    unfold B.ck at h
    split at h
    · rename_i op x pos
      have q := (B.ok a X fn sc _ S hn h).t
      cases op with
      | And => exact ⟨(s_wand1 q).pt, fun _ => s_wand1 q⟩
      | Or => exact ⟨(s_wor1 q).pt, fun _ => s_wor1 q⟩
    · cases h
  | .yes, X, fn, sc, e, S, hn, h => by
    unfold B.ck at h
    cases h
theorem I.ok : ∀ (t : I) (X : Cx) (fn : Str → Bool) (sc : Scope) (tg e : Expr), Stt X N cn fn sc k → Hasall X k t.need → t.ck N cn fn sc tg e = true → PI X tg e (tI X.K t.ev)
  | .e a, X, fn, sc, tg, e, S, hn, h => by
    unfold I.ck at h
    simp only [Bool.and_eq_true] at h
    exact s_iter ((T.ok a X fn sc e S hn h.2).s h.1)
  | .cell i, X, fn, sc, tg, e, S, hn, h => by
    have h : nmB N sc i e = true := by simpa only [I.ck] using h
    exact s_itercell (nm_ok S h)
  | .rng1 a, X, fn, sc, tg, e, S, hn, h => by
    unfold I.ck at h
    split at h
    · simp only [Bool.and_eq_true] at h
      obtain ⟨⟨⟨h1, h2⟩, h3⟩, h4⟩ := h
      obtain ⟨p, rfl, g1, g2, g3, g4⟩ := bn_ok S h1
      exact s_rng1 g1 g2 (s_cons ((T.ok a X fn sc _ S hn h4).s h3) s_nil (star_cons h2)) (by rw [star_cons h2]; rfl)
    · cases h
  | .rng2 a b, X, fn, sc, tg, e, S, hn, h => by
    unfold I.ck at h
    split at h
    · simp only [Bool.and_eq_true] at h
      obtain ⟨⟨⟨⟨⟨⟨h1, h2⟩, h3⟩, h4⟩, h5⟩, h6⟩, h7⟩ := h
      obtain ⟨p, rfl, g1, g2, g3, g4⟩ := bn_ok S h1
      exact s_rng2 g1 g2 (s_cons ((T.ok a X fn sc _ S hn.l h6).s h4) (s_cons ((T.ok b X fn sc _ S hn.r h7).s h5) s_nil (star_cons h3)) (star_cons h2)) (by rw [star_cons h2, star_cons h3]; rfl) (by rw [star_cons h3]; rfl)
    · cases h
  | .enum a, X, fn, sc, tg, e, S, hn, h => by
    unfold I.ck at h
    simp only [Bool.and_eq_true] at h
    obtain ⟨ht, h⟩ := h
    unfold isTup at ht
    split at ht
    · split at h
      · simp only [Bool.and_eq_true] at h
        obtain ⟨⟨⟨h1, h2⟩, h3⟩, h4⟩ := h
        obtain ⟨p, rfl, g1, g2, g3, g4⟩ := bn_ok S h1
        exact s_enum g1 g2 (s_cons ((T.ok a X fn sc _ S hn h4).s h3) s_nil (star_cons h2)) (by rw [star_cons h2]; rfl)
      · cases h
    · cases ht
  | .zip2 a b, X, fn, sc, tg, e, S, hn, h => by
    unfold I.ck at h
    simp only [Bool.and_eq_true] at h
    obtain ⟨ht, h⟩ := h
    unfold isTup at ht
    split at ht
    · split at h
      · simp only [Bool.and_eq_true] at h
        obtain ⟨⟨⟨⟨⟨⟨h1, h2⟩, h3⟩, h4⟩, h5⟩, h6⟩, h7⟩ := h
        obtain ⟨p, rfl, g1, g2, g3, g4⟩ := bn_ok S h1
        exact s_zip2 g1 g2 (s_cons ((T.ok a X fn sc _ S hn.l h6).s h4) (s_cons ((T.ok b X fn sc _ S hn.r h7).s h5) s_nil (star_cons h3)) (star_cons h2)) (star_cons h2) (star_any (by simp [h3]))
      · cases h
    · cases ht
  | .zip3 a b c, X, fn, sc, tg, e, S, hn, h => by
    unfold I.ck at h
    simp only [Bool.and_eq_true] at h
    obtain ⟨ht, h⟩ := h
    unfold isTup at ht
    split at ht
    · split at h
      · simp only [Bool.and_eq_true] at h
        obtain ⟨⟨⟨⟨⟨⟨⟨⟨⟨h1, h2⟩, h3⟩, h3'⟩, h4⟩, h5⟩, h5'⟩, h6⟩, h7⟩, h8⟩ := h
        obtain ⟨p, rfl, g1, g2, g3, g4⟩ := bn_ok S h1
        exact s_zip3 g1 g2 (s_cons ((T.ok a X fn sc _ S hn.l h6).s h4) (s_cons ((T.ok b X fn sc _ S hn.r.l h7).s h5) (s_cons ((T.ok c X fn sc _ S hn.r.r h8).s h5') s_nil (star_cons h3')) (star_cons h3)) (star_cons h2)) (star_cons h2) (star_any (by simp [h3, h3']))
      · cases h
    · cases ht
theorem As.ok : ∀ (t : As) (X : Cx) (fn : Str → Bool) (sc : Scope) (es : List Expr), Stt X N cn fn sc k → Hasall X k t.need → t.ck N cn fn sc es = true → es.all noStar = true → PA X es (tA X.K t.ev)
  | .nil, X, fn, sc, es, S, hn, h, hs => by
    unfold As.ck at h
    split at h
    · exact s_nil
    · cases h
  | .cons a r, X, fn, sc, es, S, hn, h, hs => by
    unfold As.ck at h
    split at h
    · simp only [Bool.and_eq_true] at h
      simp only [List.all_cons, Bool.and_eq_true] at hs
      exact s_cons ((T.ok a X fn sc _ S hn.l h.1.2).s h.1.1) (As.ok r X fn sc _ S hn.r h.2 hs.2) (star_cons hs.1)
    · cases h
theorem Ws.ok : ∀ (t : Ws) (X : Cx) (fn : Str → Bool) (sc : Scope) (es : List Expr), Stt X N cn fn sc k → Hasall X k t.need → t.ck N cn fn sc es = true → es.all noStar = true → PA X es (tW X.K t.ev)
  | .nil, X, fn, sc, es, S, hn, h, hs => by
    unfold Ws.ck at h
    split at h
    · exact s_wnil
    · cases h
  | .dat a r, X, fn, sc, es, S, hn, h, hs => by
    unfold Ws.ck at h
    split at h
    · simp only [Bool.and_eq_true] at h
      simp only [List.all_cons, Bool.and_eq_true] at hs
      exact s_wcons (s_dat ((T.ok a X fn sc _ S hn.l h.1.2).s h.1.1)) (Ws.ok r X fn sc _ S hn.r h.2 hs.2) (star_cons hs.1)
    · cases h
  | .cel i r, X, fn, sc, es, S, hn, h, hs => by
    unfold Ws.ck at h
    split at h
    · simp only [Bool.and_eq_true] at h
      simp only [List.all_cons, Bool.and_eq_true] at hs
      exact s_wcons (s_cel (nm_ok S h.1)) (Ws.ok r X fn sc _ S hn h.2 hs.2) (star_cons hs.1)
    · cases h
theorem Ws.okK : ∀ (t : Ws) (X : Cx) (fn : Str → Bool) (sc : Scope) (es : List Keyword), Stt X N cn fn sc k → Hasall X k t.need → t.ckK N cn fn sc es = true → PK X es (tW X.K t.ev)
  | .nil, X, fn, sc, es, S, hn, h => by
    unfold Ws.ckK at h
    split at h
    · exact s_knil
    · cases h
  | .dat a r, X, fn, sc, es, S, hn, h => by
    unfold Ws.ckK at h
    split at h
    · simp only [Bool.and_eq_true] at h
      exact s_kcons (s_dat ((T.ok a X fn sc _ S hn.l h.1.2).s h.1.1)) (Ws.okK r X fn sc _ S hn.r h.2)
    · cases h
  | .cel i r, X, fn, sc, es, S, hn, h => by
    unfold Ws.ckK at h
    split at h
    · simp only [Bool.and_eq_true] at h
      exact s_kcons (s_cel (nm_ok S h.1)) (Ws.okK r X fn sc _ S hn h.2)
    · cases h
theorem O.ok : ∀ (t : O) (X : Cx) (fn : Str → Bool) (sc : Scope) (e : Option Expr), Stt X N cn fn sc k → Hasall X k t.need → t.ck N cn fn sc e = true → PO X e (tO X.K t.ev)
  | .none, X, fn, sc, e, S, hn, h => by
    unfold O.ck at h
    split at h
    · exact s_noO
    · cases h
  | .some a, X, fn, sc, e, S, hn, h => by
    unfold O.ck at h
    split at h
    · simp only [Bool.and_eq_true] at h
      exact s_someO ((T.ok a X fn sc _ S hn h.2).s h.1)
    · cases h
end
def T.fresh : T → Bool
  | .comp _ _ _ _ _ => true | .lst _ => true | .f1 .list _ => true | _ => false
def T.compT : T → Bool
  | .comp _ _ _ _ _ => true | _ => false
/-- as a new list: a comprehension or a list written out -/
theorem T.okF {X : Cx} {fn : Str → Bool} {sc : Scope} {e : Expr} (t : T) (S : Stt X N cn fn sc k) (hn : Hasall X k t.need) (h : t.ck N cn fn sc e = true) (hf : t.fresh = true) : PE X e (tF X.K t.evF) := by
  cases t with
  | comp it tg test elt own => exact comp_okF S hn h (I.ok it) (B.ok test) (T.ok elt)
  | lst es =>
    unfold T.ck at h
    split at h
    · simp only [Bool.and_eq_true] at h
      exact s_lstF (As.ok es X fn sc _ S hn h.2 h.1)
    · cases h
  | f1 f a =>
    cases f with
    | list =>
      unfold T.ck at h
      split at h
      · simp only [Bool.and_eq_true] at h
        obtain ⟨⟨h1, h2⟩, h3⟩ := h
        obtain ⟨p, rfl, g1, g2, g3, g4⟩ := bn_ok S h1
        exact s_listF g1 g2 (T.ok a X fn sc _ S hn h3).w (star_cons h2)
      · cases h
    | _ => cases hf
  | _ => cases hf
end
end EF

set_option Elab.async false
set_option linter.all false
set_option maxRecDepth 100000
/-! EF17: statements. -/
namespace EF
open PySem PySem.Spec PyProof.Rows L2

def noComp : Expr → Bool
  | .ListComp _ _ _ _ => false | .SetComp _ _ _ _ => false | .DictComp _ _ _ _ _ => false | _ => true
def noTup : Expr → Bool
  | .Tuple _ _ _ => false | _ => true
def fnKind (sc : Scope) : Bool := match sc.kind with | .function => true | _ => false
theorem sw_false {e : Expr} {l : Nat} {env : Env} (t : Option Expr) (h : noComp e = true) : swapsWith e t l env = pure false := by
  cases e <;> first | rfl | cases h
theorem ss_none {tg e : Expr} {env : Env} (h : noTup e = true) : swappedStores [tg] e env = pure none := by
  unfold swappedStores
  cases e <;> first | (cases tg <;> rfl) | cases h
/-- two names, one of them no plain local -/
def cellT (sc : Scope) : Expr → Bool
  | .Tuple [.Name x _, .Name y _] _ _ => (match sc.names.lookup x with | some .local => false | _ => true) || (match sc.names.lookup y with | some .local => false | _ => true)
  | _ => false
theorem ss_cell {tg e : Expr} {env : Env} (h : cellT env.scope tg = true) : swappedStores [tg] e env = pure none := by
  unfold cellT at h
  split at h
  · rename_i x px y py kt pt
    cases e with
    | Tuple vs k2 p2 =>
      have kd : (env.kindOf x == some .local && env.kindOf y == some .local) = false := by
        have ex : env.kindOf x = env.scope.names.lookup x := rfl
        have ey : env.kindOf y = env.scope.names.lookup y := rfl
        rw [ex, ey]
        cases hx : env.scope.names.lookup x with
        | none => rfl
        | some kx =>
          cases hy : env.scope.names.lookup y with
          | none => rw [Bool.and_comm]; rfl
          | some ky =>
            rw [hx, hy] at h
            cases kx <;> cases ky <;> first | rfl | cases h
      unfold swappedStores
      dsimp only
      cases hx : (env.kindOf x == some NameKind.local) <;> cases hy : (env.kindOf y == some NameKind.local)
      · simp [hx, hy, List.filterMap]
      · simp [hx, hy, List.filterMap]
        intro _ _ _ h4
        exfalso
        generalize (if py.line = (Expr.Name x px).pos.line then some y else none : Option Str) = o at h4
        cases o <;> simp at h4
      · simp [hx, hy, List.filterMap]
        intro _ _ _ h4
        exfalso
        generalize (if px.line = (Expr.Name x px).pos.line then some x else none : Option Str) = o at h4
        cases o <;> simp at h4
      · rw [hx, hy] at kd
        cases kd
    | _ => rfl
  · cases h
/-- the value is a comprehension on the line of the name, a local that the comprehension does not store -/
def swB (sc : Scope) (x : Str) (p : Pos) : Expr → Bool
  | .ListComp _ _ scope pos => fnKind sc && (match sc.names.lookup x with | some .local => true | _ => false) && (p.line == pos.line) && !(scope.names.any fun (n, k) => n == x && (k == .local || k == .cell))
  | _ => false
/-- .. no comprehension, or one on another line -/
def nswB (p : Pos) : Expr → Bool
  | .ListComp _ _ _ pos => !(p.line == pos.line)
  | e => noComp e
theorem nsw {e : Expr} {l : Nat} {env : Env} {x : Str} {p : Pos} (h : nswB p e = true) : swapsWith e (some (.Name x p)) l env = pure false := by
  cases e with
  | ListComp el gs scope pos =>
    have h' : (p.line == pos.line) = false := by
      have : (!(p.line == pos.line)) = true := h
      simpa using this
    unfold swapsWith
    simp only [Expr.pos, h', Bool.and_false, Bool.false_and] <;> rfl
  | _ => first | rfl | cases h
section
variable (N : List Str) (cn : List (Str × Int))
def Sm.ck : Sm → (Str → Bool) → Scope → Stmt → Bool
  | .set1 i a, fn, sc, s => (match s with | .Assign [.Name x p] e _ => stB N fn sc i (.Name x p) && a.ck N cn fn sc e && a.st && (nswB p e || (swB sc x p e && a.compT)) | _ => false)
  | .new i a, fn, sc, s => (match s with | .Assign [.Name x p] e _ => stB N fn sc i (.Name x p) && a.ck N cn fn sc e && a.fresh && (nswB p e || swB sc x p e) | _ => false)
  | .set g a, fn, sc, s => (match s with | .Assign [t] e _ => noStar t && noComp e && (noTup e || cellT sc t) && a.st && g.ck N fn sc t && a.ck N cn fn sc e | _ => false)
  | .setc i x _ args, fn, sc, s => (match s with | .Assign [.Name t p] (.Call (.Name y _) (z :: zs) [] _) _ => stB N fn sc i (.Name t p) && decide (y = x) && glB sc y && okN y && (z :: zs).all noStar && args.ck N cn fn sc (z :: zs) | _ => false)
  | .par i j a b, fn, sc, s => (match s with
      | .Assign [.Tuple [.Name x px, .Name y py] _ _] (.Tuple [u, v] _ _) _ => decide (N[i]? = some x) && decide (N[j]? = some y) && decide (i ≠ j) && (match sc.names.lookup x with | some .local => true | _ => false) && (match sc.names.lookup y with | some .local => true | _ => false) &&
          noStar u && noStar v && (px.line == py.line) && !(constantsAlone 8 u && constantsAlone 8 v) && !(foldedForSure 8 u && foldedForSure 8 v) && a.st && b.st && a.ck N cn fn sc u && b.ck N cn fn sc v
      | _ => false)
  | .add i a, fn, sc, s => (match s with | .AugAssign (.Name x p) .Add e _ => stB N fn sc i (.Name x p) && a.st && a.ck N cn fn sc e | _ => false)
  | .sub i a, fn, sc, s => (match s with | .AugAssign (.Name x p) .Sub e _ => stB N fn sc i (.Name x p) && a.st && a.ck N cn fn sc e | _ => false)
  | .app i a, fn, sc, s => (match s with | .Expr (.Call (.Attribute o x ap) [e] [] cp) _ => decide (x = "append") && nmB N sc i o && noStar e && posLine ap cp && a.st && a.ck N cn fn sc e | _ => false)
  | .put i j a, fn, sc, s => (match s with | .Assign [.Subscript o x _] e _ => noComp e && noTup e && nmB N sc i o && ixE x && a.st && j.st && j.ck N cn fn sc x && a.ck N cn fn sc e | _ => false)
  | .ret a, fn, sc, s => (match s with | .Return (some e) _ => a.st && a.ck N cn fn sc e | _ => false)
  | .retn, _, _, s => (match s with | .Return none _ => true | _ => false)
  | .retc a, fn, sc, s => (match s with | .Return (some e) _ => a.fresh && a.ck N cn fn sc e | _ => false)
  | .drop a, fn, sc, s => (match s with | .Expr e _ => noComp e && a.st && a.ck N cn fn sc e | _ => false)
  | .cnt, _, _, s => (match s with | .Continue _ => true | _ => false)
  | .brk, _, _, s => (match s with | .Break _ => true | _ => false)
  | .pass, _, _, s => (match s with | .Pass _ => true | _ => false)
  | .never, _, _, _ => true
mutual
def S.ck : S → (Str → Bool) → Scope → Stmt → Bool
  | .sm t, fn, sc, s => t.ck N cn fn sc s
  | .ifs c a b, fn, sc, s => (match s with | .If e ss us _ => c.ck N cn fn sc e && a.ck fn sc ss && b.ck fn sc us | _ => false)
  | .for_ it g body, fn, sc, s => (match s with | .For tg e ss [] _ => noSet e && it.ck N cn fn sc tg e && g.ck N fn sc tg && body.ck fn sc ss | _ => false)
  | .wh _ c body, fn, sc, s => (match s with | .While e ss [] _ => c.ck N cn fn sc e && body.ck fn sc ss | _ => false)
def Ss.ck : Ss → (Str → Bool) → Scope → List Stmt → Bool
  | .nil, _, _, l => (match l with | [] => true | _ => false)
  | .cons t r, fn, sc, l => (match l with | s :: ss => t.ck fn sc s && r.ck fn sc ss | [] => false)
  | .frz _ r, fn, sc, l => r.ck fn sc l
end
end
section
variable {N : List Str} {cn : List (Str × Int)} {k : Nat} {X : Cx} {fn : Str → Bool} {sc : Scope}
/-- name = a new list, whichever way the stores go -/
theorem fresh_asg {i : Nat} {x : Str} {p pos : Pos} {e : Expr} (S : Stt X N cn fn sc k) (t : T) (hn : Hasall X k t.need) (h0 : stB N fn sc i (.Name x p) = true) (h : t.ck N cn fn sc e = true) (hf : t.fresh = true) (hs : nswB p e = true ∨ swB sc x p e = true) :
    ∃ u : TE, PS X (.Assign [.Name x p] e pos) (tAsg u (gName i)) ∧ ∀ σ H Q, tF X.K t.evF σ H Q → u σ H Q := by
  obtain ⟨y, py, ey, l0, l1, l2⟩ := st_ok S h0
  cases ey
  rcases hs with hs | hs
  · exact ⟨_, ps_set S.ndX l0 l1 (T.okF t S hn h hf) (nsw hs) l2, fun _ _ _ q => q⟩
  · unfold swB at hs
    split at hs
    · rename_i el gs scope cpos
      simp only [Bool.and_eq_true] at hs
      obtain ⟨⟨⟨k1, k2⟩, k3⟩, k4⟩ := hs
      have k2' : sc.names.lookup x = some .local := by
        split at k2
        · assumption
        · cases k2
      have k2x : X.env.scope.names.lookup x = some .local := by rw [S.hsc]; exact k2'
      cases t with
      | comp it tg test elt own =>
        unfold T.ck at h
        split at h
        · rename_i el' tgE itE ifs as scope' pos' heq
          cases heq
          simp only [Bool.and_eq_true, decide_eq_true_eq] at h
          obtain ⟨⟨⟨⟨⟨⟨⟨⟨⟨rfl, h1⟩, h2⟩, h3⟩, h4⟩, h5⟩, h6⟩, h7⟩, h8⟩, h9⟩ := h
          have kd : scope.kind = .function := by
            split at h2
            · assumption
            · cases h2
          have hsw := fun (l : Nat) => sw_true (elt := el) (gs := [⟨tgE, itE, ifs, 0⟩]) (scope := scope) (pos := cpos) (py := p) (y := x) (l := l) (env := X.env) (by rw [S.hsc]; exact S.kd) k2x k3 (by simpa using k4)
          have bo : BlkOk X.N X.env.scope scope own := by rw [S.hN, S.hsc]; exact blkOk_by h1
          have hi := I.ok it X fn sc tgE itE S hn.l h6
          have Sb := fun (s : Shared) (H : Hp) (C : Addr) (cl : List (Str × Addr)) (fp : List Addr) => S.blk kd s H C cl fp
          have hg : ∀ i ∈ tg.is, i ∈ own.map (·.2) := fun i hi => of_decide_eq_true (List.all_eq_true.mp h4 i hi)
          have he : ∀ (s : Shared) (H : Hp) (C : Addr) (cl : List (Str × Addr)) (fp : List Addr), PE (X.blk s H scope (compEnvC scope cl C X.env) fp) el (tE X.K elt.ev) := fun s H C cl fp =>
            (T.ok elt _ _ _ _ (Sb s H C cl fp) (fun q m => hn q (List.mem_append_right _ (List.mem_append_right _ m))) h9).s h7
          have hgg : ∀ (s : Shared) (H : Hp) (C : Addr) (cl : List (Str × Addr)) (fp : List Addr), PG (X.blk s H scope (compEnvC scope cl C X.env) fp) tgE (tG X.K tg) := fun s H C cl fp => g_ok (Sb s H C cl fp) h5
          split at h8
          · cases test with
            | yes =>
              refine ⟨_, ps_setLc S.calm S.ndX l0 k2x (hsw _) hi bo hgg (fun _ _ _ _ _ => pts_nil) he (set_fold h3), fun σ H Q q => lc_ok hg (fun σ H Q ⟨ρ, cs, st, b, st', sl, so, ev, kk⟩ => ?_) q⟩
              have ev2 : (pure true : M Bool) st = some (b, st') := by simpa only [B.ev] using ev
              obtain ⟨rfl, rfl⟩ := pure_some ev2
              exact kk H cs .refl so
            | e _ => cases h8
            | not _ => cases h8
            | and _ _ => cases h8
            | or _ _ => cases h8
            | one _ => cases h8
          · exact ⟨_, ps_setLc S.calm S.ndX l0 k2x (hsw _) hi bo hgg (fun s H C cl fp => pts_one (B.ok test _ _ _ _ (Sb s H C cl fp) (fun q m => hn q (List.mem_append_right _ (List.mem_append_left _ m))) h8).t) he (set_fold h3), fun σ H Q q => lc_ok hg (fun σ H Q q => q) q⟩
          · cases h8
        · cases h
      | lst es =>
        unfold T.ck at h
        cases h
      | f1 f a =>
        unfold T.ck at h
        cases h
      | _ => cases hf
    · cases hs
theorem fresh_ev (t : T) (h : t.compT = true) : t.fresh = true ∧ t.ev = lsX t.evF := by
  cases t <;> first | exact ⟨rfl, rfl⟩ | cases h
theorem par_ss {x y : Str} {px py pt pt2 : Pos} {kt k2} {u v : Expr} {env : Env} (hk : env.blockKind = .function) (hx : env.kindOf x = some .local) (hy : env.kindOf y = some .local) (hxy : x ≠ y) (hu : noStar u = true) (hv : noStar v = true)
    (hl : (px.line == py.line) = true) (h1 : (constantsAlone 8 u && constantsAlone 8 v) = false) (h2 : (foldedForSure 8 u && foldedForSure 8 v) = false) :
    swappedStores [.Tuple [.Name x px, .Name y py] kt pt] (.Tuple [u, v] k2 pt2) env = pure (some [x, y]) := by
  have su : (match u with | .Starred _ _ => true | _ => false) = false := by cases u <;> first | rfl | cases hu
  have sv : (match v with | .Starred _ _ => true | _ => false) = false := by cases v <;> first | rfl | cases hv
  have hl' : py.line = px.line := (beq_iff_eq.mp hl).symm
  have ne : (y == x) = false := by simpa using Ne.symm hxy
  unfold swappedStores
  simp [hk, hx, hy, Expr.pos, hl', List.any, List.all, h1, h2, List.eraseDups, List.eraseDupsBy, List.eraseDupsBy.loop, ne, Bool.and_true]
  rintro (hh | hh)
  · exfalso
    clear su sv h1 h2
    cases u <;> first | exact Bool.noConfusion hu | exact absurd hh Bool.false_ne_true
  · exfalso
    clear su sv h1 h2
    cases v <;> first | exact Bool.noConfusion hv | exact absurd hh Bool.false_ne_true
theorem Sm.ok (t : Sm) (s : Stmt) (S : Stt X N cn fn sc k) (hn : Hasall X k t.need) (h : t.ck N cn fn sc s = true) : PS X s (tS X.K t.ev) := by
  cases t with
  | set1 i a =>
    simp only [Sm.ck] at h
    split at h
    · rename_i x p e pos
      simp only [Bool.and_eq_true, Bool.or_eq_true] at h
      obtain ⟨⟨⟨h1, h2⟩, h3⟩, h4⟩ := h
      rcases h4 with h4 | ⟨h4, h5⟩
      · obtain ⟨y, py, ey, l0, l1, l2⟩ := st_ok S h1
        cases ey
        exact s_set (ps_set S.ndX l0 l1 ((T.ok a X fn sc _ S hn h2).s h3) (nsw h4) l2)
      · obtain ⟨u, q1, q2⟩ := fresh_asg (pos := pos) S a hn h1 h2 (fresh_ev a h5).1 (.inr h4)
        show PS X _ (tS X.K (set1S i a.ev))
        rw [(fresh_ev a h5).2]
        exact s_setl q1 q2
    · cases h
  | new i a =>
    simp only [Sm.ck] at h
    split at h
    · rename_i x p e pos
      simp only [Bool.and_eq_true, Bool.or_eq_true] at h
      obtain ⟨⟨⟨h1, h2⟩, h3⟩, h4⟩ := h
      obtain ⟨u, q1, q2⟩ := fresh_asg (pos := pos) S a hn h1 h2 h3 h4
      exact s_new q1 q2
    · cases h
  | set g a =>
    simp only [Sm.ck] at h
    split at h
    · rename_i tg e pos
      simp only [Bool.and_eq_true, Bool.or_eq_true] at h
      obtain ⟨⟨⟨⟨⟨h1, h2⟩, h3⟩, h4⟩, h5⟩, h6⟩ := h
      refine s_asg ((T.ok a X fn sc _ S hn h6).s h4) (g_ok S h5) (sw_false _ h2) (by
        rcases h3 with h3 | h3
        · exact ss_none h3
        · exact ss_cell (by rw [S.hsc]; exact h3)) ?_
      cases tg <;> first | rfl | cases h1
    · cases h
  | setc i x g args =>
    simp only [Sm.ck] at h
    split at h
    · rename_i tt p y q z zs cp pos
      simp only [okN, Bool.and_eq_true, decide_eq_true_eq] at h
      obtain ⟨⟨⟨⟨⟨h0, rfl⟩, h2⟩, ⟨h3, _⟩, _⟩, h4⟩, h5⟩ := h
      obtain ⟨f, fd, ps, q1, q2, q3, q4, q5⟩ := hn.hd
      have h4' := h4
      simp only [List.all_cons, Bool.and_eq_true] at h4'
      have qa := Ws.ok args X fn sc (z :: zs) S hn.tl h5 h4
      obtain ⟨yy, py, ey, l0, l1, l2⟩ := st_ok S h0
      cases ey
      exact s_setc (ps_set S.ndX l0 l1 (pe_callg q5 S.gd S.room (gl_ok S h2) q1 q2 q3 qa h3 (star_cons h4'.1) (star_any h4'.2)) rfl l2) (ws_len X.K args)
    · cases h
  | par i j a b =>
    simp only [Sm.ck] at h
    split at h
    · rename_i x px y py kt pt u v k2 pt2 pos
      simp only [Bool.and_eq_true, decide_eq_true_eq, Bool.not_eq_true'] at h
      obtain ⟨⟨⟨⟨⟨⟨⟨⟨⟨⟨⟨⟨⟨c1, c2⟩, c3⟩, c4⟩, c5⟩, c6⟩, c7⟩, c8⟩, c9⟩, c10⟩, c11⟩, c12⟩, c13⟩, c14⟩ := h
      have lx : X.env.scope.names.lookup x = some .local := by
        rw [S.hsc]
        split at c4
        · assumption
        · cases c4
      have ly : X.env.scope.names.lookup y = some .local := by
        rw [S.hsc]
        split at c5
        · assumption
        · cases c5
      have hk : X.env.blockKind = .function := by
        unfold Env.blockKind
        rw [S.hsc, S.kd]; rfl
      have hxy : x ≠ y := by
        rintro rfl
        exact c3 ((List.getElem?_inj (List.getElem?_eq_some_iff.mp c1).1 S.nd).mp (c1.trans c2.symm))
      exact s_par (ps_par S.calm S.ndX (by rw [S.hN]; exact c1) (by rw [S.hN]; exact c2) c3 lx ly (s_cons ((T.ok a X fn sc _ S hn.l c13).s c11) (s_cons ((T.ok b X fn sc _ S hn.r c14).s c12) s_nil (star_cons c7)) (star_cons c6)) (par_ss hk lx ly hxy c6 c7 c8 c9 c10))
    · cases h
  | add i a =>
    simp only [Sm.ck] at h
    split at h
    · simp only [Bool.and_eq_true] at h
      obtain ⟨⟨h1, h2⟩, h3⟩ := h
      obtain ⟨y, py, ey, l0, l1, l2⟩ := st_ok S h1
      cases ey
      exact s_aug (ps_aug S.ndX l0 l1 ((T.ok a X fn sc _ S hn h3).s h2) ip_add l2)
    · cases h
  | sub i a =>
    simp only [Sm.ck] at h
    split at h
    · simp only [Bool.and_eq_true] at h
      obtain ⟨⟨h1, h2⟩, h3⟩ := h
      obtain ⟨y, py, ey, l0, l1, l2⟩ := st_ok S h1
      cases ey
      exact s_aug (ps_aug S.ndX l0 l1 ((T.ok a X fn sc _ S hn h3).s h2) ip_sub l2)
    · cases h
  | app i a =>
    simp only [Sm.ck] at h
    split at h
    · rename_i o x ap e cp pos
      simp only [Bool.and_eq_true, decide_eq_true_eq] at h
      obtain ⟨⟨⟨⟨⟨rfl, h2⟩, h3⟩, h4⟩, h5⟩, h6⟩ := h
      have qo := nm_ok S h2
      have qa := s_cons ((T.ok a X fn sc _ S hn h6).s h5) s_nil (star_cons h3)
      have hb : attributeBase o "append" X.env (eval o X.env) = eval o X.env := by
        unfold nmB at h2
        split at h2
        · rfl
        · cases h2
      have hfew : ((backTo cp (starEach [e] X.env)).all (fun x => !x.1) && (backToKw cp (keywordEach [] X.env)).all (fun x => x.1.isSome)
      && decide ([e].length + ([] : List Keyword).length + (if ([] : List Keyword).isEmpty then 0 else 1) < 30)) = true := by
        rw [star_cons h3]; rfl
      exact s_expr (s_app (pe_bm PySem.F.plainAttrs_list PySem.F.slot_list_append PySem.F.type_list_append mt_append qo qa hb hfew h4 (star_cons h3) rfl)) rfl
    · cases h
  | put i j a =>
    simp only [Sm.ck] at h
    split at h
    · rename_i o x sp e pos
      simp only [Bool.and_eq_true] at h
      obtain ⟨⟨⟨⟨⟨⟨⟨h1, h2⟩, h3⟩, h4⟩, h5⟩, h6⟩, h7⟩, h8⟩ := h
      have hsw : swapsWithSole [.Subscript o x sp] e pos.line X.env = pure false := by show swapsWith e (some (.Subscript o x sp)) pos.line X.env = pure false; exact sw_false _ h1
      refine s_put (ps_asg ((T.ok a X fn sc _ S hn.r h8).s h5) (pg_sub (nm_ok S h3) ((T.ok j X fn sc _ S hn.l h7).s h6) set_list ?_) hsw (ss_none h2) rfl)
      intro v
      cases x <;> first | rfl | cases h4
    · cases h
  | ret a =>
    simp only [Sm.ck] at h
    split at h
    · simp only [Bool.and_eq_true] at h
      exact s_ret ((T.ok a X fn sc _ S hn h.2).s h.1)
    · cases h
  | retn =>
    simp only [Sm.ck] at h
    split at h
    · exact s_retn
    · cases h
  | retc a =>
    simp only [Sm.ck] at h
    split at h
    · simp only [Bool.and_eq_true] at h
      exact s_retc (T.okF a S hn h.2 h.1)
    · cases h
  | drop a =>
    simp only [Sm.ck] at h
    split at h
    · simp only [Bool.and_eq_true] at h
      exact s_expr ((T.ok a X fn sc _ S hn h.2).s h.1.2) (sw_false _ h.1.1)
    · cases h
  | cnt =>
    simp only [Sm.ck] at h
    split at h
    · exact s_cont
    · cases h
  | brk =>
    simp only [Sm.ck] at h
    split at h
    · exact s_break
    · cases h
  | pass =>
    simp only [Sm.ck] at h
    split at h
    · exact s_pass
    · cases h
  | never => exact s_never
theorem own_never (S : Stt X N cn fn sc k) : PassesOwn (model X.prog X.w) X.A X.env X.xe := by rw [S.xe]; exact PassesOwn.never
mutual
theorem S.ok : ∀ (t : S) (s : Stmt), Stt X N cn fn sc k → Hasall X k t.need → t.ck N cn fn sc s = true → PS X s (tS X.K t.ev)
  | .sm t, s, Z, hn, h => Sm.ok t s Z hn (by simpa only [S.ck] using h)
  | .ifs c a b, s, Z, hn, h => by
    unfold S.ck at h
    split at h
    · simp only [Bool.and_eq_true] at h
      obtain ⟨⟨h1, h2⟩, h3⟩ := h
      exact s_if (B.ok c X fn sc _ Z hn.l h1).t (Ss.ok a _ Z hn.r.l h2) (Ss.ok b _ Z hn.r.r h3)
    · cases h
  | .for_ it g body, s, Z, hn, h => by
    unfold S.ck at h
    split at h
    · simp only [Bool.and_eq_true] at h
      obtain ⟨⟨⟨h1, h2⟩, h3⟩, h4⟩ := h
      exact s_for (own_never Z) Z.calm (I.ok it X fn sc _ _ Z hn.l h2) (g_ok Z h3) (Ss.ok body _ Z hn.r h4) (set_fold h1)
    · cases h
  | .wh n c body, s, Z, hn, h => by
    unfold S.ck at h
    split at h
    · simp only [Bool.and_eq_true] at h
      exact s_while (own_never Z) (B.ok c X fn sc _ Z hn.l h.1).t (Ss.ok body _ Z hn.r h.2)
    · cases h
theorem Ss.ok : ∀ (t : Ss) (l : List Stmt), Stt X N cn fn sc k → Hasall X k t.need → t.ck N cn fn sc l = true → PSs X l (tS X.K t.ev)
  | .nil, l, Z, hn, h => by
    unfold Ss.ck at h
    split at h
    · exact s_pssnil
    · cases h
  | .cons t r, l, Z, hn, h => by
    unfold Ss.ck at h
    split at h
    · simp only [Bool.and_eq_true] at h
      exact s_psscons (S.ok t _ Z hn.l h.1) (Ss.ok r _ Z hn.r h.2)
    · cases h
  | .frz i r, l, Z, hn, h => by
    unfold Ss.ck at h
    exact s_frz (Ss.ok r _ Z hn h)
end
end
end EF

set_option Elab.async false
set_option linter.all false
set_option maxRecDepth 100000
/-! EF18: defs of the text, and the end of a law. -/
namespace EF
open PySem PySem.Spec PyProof.Rows L2

section
variable {P : Program} {w : World} {K : PySem.W.Frag} {mg : Str → Option Value} {base : Heap}
theorem FnG.mono {j k : Nat} {f : Addr} {fd : FuncData} {ps : List Str} {sp : Sp} (F : FnG P w K mg base j f fd ps sp) (h : j ≤ k) : FnG P w K mg base k f fd ps sp :=
  ⟨F.len, fun A outer s H args us vs Q g hr => F.run A outer s H args us vs Q g (hr.mono h)⟩
/-- a def as a datum of the top -/
theorem FnG.bodyD {k : Nat} {f : Addr} {x qual : Str} {pm : Arguments} {body : List Stmt} {sc : Scope} {fd : FuncData} {N ps : List Str} {sp : Sp} (F : FunD K x qual pm body sc [] [] f fd) (S : FnScope N ps sc) (len : ∀ vs H Q, sp vs H Q E0 → vs.length = ps.length)
    (hb : ∀ (cdv : Value) (A : Around) (outer : List Env) (s : Shared) (H : Hp) (vs : List V) (Q : VK), A.guards = some [] → Room k (A.deeper (envOfC qual sc s.heap.objs.size f cdv)) → sp vs H Q E0 →
      ∃ t, PSs (cxOf CX0 P w K mg base N qual sc f cdv A outer s H E0) body t ∧ t { nx := fun _ H' => Q .non H', rt := Q } (L2.start N vs) H) : FnG P w K mg base (k + 1) f fd ps sp := by
  obtain ⟨oc, od, dV, kV, doc, pmv, an, cdv, ct, osl, rfl, lk, hcd, _, _⟩ := F.ex
  refine ⟨len, ?_⟩
  intro A outer s H args us vs Q hg hr e0 bi r hsp
  have own : ∀ b o, base.get? b = some o → s.heap.get? b = some o := fun b o e => (e0.bs b o e).1
  have kin := e0.mod.kin.keeps own
  refine codeAny_call_function hr.depth (kin _ _ lk) rfl S.co S.gen rfl (PySem.W.codeRec_of kin hcd) (bi _ _ _ _ ?_)
  refine wpAny_newFunctionEnv_cells S.kind ?_ ?_
  · rintro ⟨n, v⟩ hy
    rcases S.par n (List.of_mem_zip hy).1 with q | q
    · exact Or.inl q
    · exact Or.inr ⟨q, PySem.W.cellsFrom_some _ _ _ (Or.inl q)⟩
  · rintro env rfl s1 xc
    refine ⟨(e0.mod.nolimit.keeps own).keeps xc.toInCall.keep, codeAny_func ?_⟩
    obtain ⟨t, ht, q⟩ := hb cdv A outer s H vs Q hg (hr.deeper _) hsp
    have I0 := inv_start (CX := CX0) (E := E0) S hr.hd e0 (len _ _ _ hsp) r xc
    refine wpAny_mono (ht.run [] s1 (L2.start N vs) H _ I0 q) ?_ fun _ _ z => z
    intro fl s' hs
    cases fl with
    | ret u =>
      obtain ⟨v, σ', H', J, rv, q'⟩ := hs
      exact ⟨v, H', J.os, J.bare, J.base, J.hok, rv, q'⟩
    | next =>
      obtain ⟨σ', H', J, q'⟩ := hs
      exact ⟨.non, H', J.os, J.bare, J.base, J.hok, rfl, q'⟩
    | brk =>
      obtain ⟨_, _, _, z⟩ := hs
      exact z.elim
    | cont =>
      obtain ⟨_, _, _, z⟩ := hs
      exact z.elim
/-- what the text's names are -/
structure Glob (mg : Str → Option Value) (cn : List (Str × Int)) : Prop where
  blt : ∀ x ∈ bltNames, mg x = none
  con : ∀ q ∈ cn, ∃ t, mg q.1 = some (.int q.2 t)
def HasG (P : Program) (w : World) (K : PySem.W.Frag) (mg : Str → Option Value) (base : Heap) (k : Nat) : Nd → Prop
  | .pos x np g => ∃ f fd ps, mg x = some (.ref f) ∧ PySem.W.keepIn K (.ref f) = true ∧ Binds K fd ps [] ∧ ps.length = np ∧ FnG P w K mg base k f fd ps (spG K np g)
  | .kw x g n ks pi => ∃ f fd ps, mg x = some (.ref f) ∧ PySem.W.keepIn K (.ref f) = true ∧ KwB K fd ps n ks pi ∧ FnG P w K mg base k f fd ps (spG K pi.length g)
theorem HasG.mono {j k : Nat} (h : j ≤ k) : ∀ {q : Nd}, HasG P w K mg base j q → HasG P w K mg base k q
  | .pos x np g, ⟨f, fd, ps, a, b, c, d, e⟩ => ⟨f, fd, ps, a, b, c, d, e.mono h⟩
  | .kw x g n ks pi, ⟨f, fd, ps, a, b, c, d⟩ => ⟨f, fd, ps, a, b, c, d.mono h⟩
theorem hasG_cx {k : Nat} {X : Cx} (h1 : X.prog = P) (h2 : X.w = w) (h3 : X.K = K) (h4 : X.mg = mg) (h5 : X.base = base) : ∀ {q : Nd}, HasG P w K mg base k q → Has X k q
  | .pos x np g, h => by subst h1 h2 h3 h4 h5; exact h
  | .kw x g n ks pi, h => by subst h1 h2 h3 h4 h5; exact h
/-- THE RULE for a def: its body is what the term b says -/
theorem def_ok {k : Nat} {f : Addr} {x qual : Str} {pm : Arguments} {body : List Stmt} {sc : Scope} {fd : FuncData} {N ps : List Str} {cn : List (Str × Int)} (F : FunD K x qual pm body sc [] [] f fd) (S : FnScope N ps sc) (G : Glob mg cn)
    (b : Ss) (hck : b.ck N cn (fun _ => true) sc body = true) (hn : ∀ q ∈ b.need, HasG P w K mg base k q) : FnG P w K mg base (k + 1) f fd ps (spG K ps.length (fnM N.length b.ev)) := by
  refine FnG.bodyD F S (fun vs H Q h => h.1) fun cdv A outer s H vs Q hg hr ⟨hl, ws, cs, s0, r, s1, rw', so, e, kk⟩ => ?_
  have St : Stt (cxOf CX0 P w K mg base N qual sc f cdv A outer s H E0).nox N cn (fun _ => true) sc k :=
    { hN := rfl, nd := S.nd, hsc := rfl, kd := S.kind, hfn := rfl, calm := rfl, gd := hg, room := hr, xe := rfl, blt := G.blt, con := G.con }
  have hb : PSs (cxOf CX0 P w K mg base N qual sc f cdv A outer s H E0) body (tS K b.ev) := PSs.nox (Ss.ok b body St (fun q m => hasG_cx (X := (cxOf CX0 P w K mg base N qual sc f cdv A outer s H E0).nox) rfl rfl rfl rfl rfl (hn q m)) hck)
  refine ⟨_, hb, ?_⟩
  unfold fnM at e
  cases eb : b.ev (startR N.length ws) s0 with
  | none => rw [eb] at e; cases e
  | some p =>
    obtain ⟨fl, s2⟩ := p
    rw [eb] at e
    have e' : endM (fl, s2) s0.length = some (r, s1) := e
    have hlen : cs.c.length = s0.length := so.len
    refine ⟨_, cs, s0, fl, s2, start_slots rw', so, eb, ?_⟩
    cases fl with
    | nx ρ' =>
      cases e'
      intro σ' H' cs' x so' sl'
      obtain ⟨x2, so2, dq⟩ := cut_ok (n := s0.length) x so' (Nat.le_of_eq hlen)
      exact kk .non H' _ x2 so2 .non
    | bk ρ' => cases e'
    | ct ρ' => cases e'
    | rt wv =>
      intro v H' cs' x so' q
      cases wv with
      | d y =>
        cases e'
        obtain ⟨x2, so2, dq⟩ := cut_ok (n := s0.length) x so' (Nat.le_of_eq hlen)
        exact kk v H' _ x2 so2 (dq v y q)
      | s xs => cases e'
      | c m =>
        have e2 : (if m = s0.length ∧ s0.length < s2.length then some (W.c m, s2.take (s0.length + 1)) else none) = some (r, s1) := e'
        split at e2
        · rename_i hm
          cases e2
          obtain ⟨x2, so2, dq⟩ := cut_ok (n := s0.length + 1) x so' (by omega)
          obtain ⟨a, rfl, hn', hbb⟩ := q
          refine kk _ H' _ x2 so2 ⟨a, rfl, ?_, fun b q' => hbb b ?_⟩
          · show m < (cs'.c.take (s0.length + 1)).length
            rw [List.length_take]
            omega
          · have q2 : (cs'.c.take (s0.length + 1))[m]? = some (some b) := q'
            rw [List.getElem?_take_of_lt (by omega)] at q2
            exact q2
        · cases e2
theorem kwB_of {x qual : Str} {pm : Arguments} {body : List Stmt} {sc : Scope} {f : Addr} {fd : FuncData} {ps ks : List Str} {n : Nat} {pi : List Nat} (F : FunD K x qual pm body sc [] [] f fd)
    (h : ∀ (kV doc pmv : Value) (an : Option Addr) (cdv ct : Value) (us ws : List Value), us.length = n → ws.length = ks.length → bindArgs (PySem.W.fnOf x qual pm body sc .none kV doc pmv an cdv ct) ⟨us, ks.zip ws⟩ = pure (ps.zip (pick pi Value.none (us ++ ws)))) : KwB K fd ps n ks pi := by
  obtain ⟨oc, od, dV, kV, doc, pmv, an, cdv, ct, osl, rfl, lk, hcd, hD, hK⟩ := F.ex
  rcases hD with ⟨_, rfl⟩ | ⟨e, _⟩
  · exact fun s us ws _ h1 h2 => .of_eq (h kV doc pmv an cdv ct us ws h1 h2)
  · exact absurd rfl e
end

/-! ### the end -/
/-- the heap of what is tracked behind the top: the script alone, if it is none of the module's own objects -/
theorem end_core {P : Program} {w : World} {K : PySem.W.Frag} {mg mb : Str → Option Value} {k : Nat} {fa a : Addr} {fd : FuncData} {x : Str} {g : Gf} {s₁ : Shared} {vs : List Value} {ns : List Int} {H : Hp}
    (KX : K.In s₁.heap) (hns : s₁.heap.Ns mainGlobals mg) (hb : s₁.heap.Ns builtinsNs mb) (hbb : ∀ x : Str, x ≠ "__name__" → mb x = bootBuiltins x) (hlim : s₁.heap.NoLimit) (hg : s₁.gens = #[])
    (ha : s₁.heap.get? a = some { cls := .type "list", data := .seq vs.toArray }) (hr : Room k callerA)
    (F : ∀ base : Heap, K.In base → base.Ns mainGlobals mg → FnG P w K mg base k fa fd [x] (spG K 1 g)) (hbind : ∀ (s : Shared) (u : Value), BindsTo s fd ⟨[u], []⟩ [(x, u)])
    (hrun : ∃ st, g [.s ns] [] = some (.d (.bool true), st)) (hS : ScrAt K H a ns) (hok : HOk P w H s₁.heap) (hA : ∀ b, H b ≠ none → b = a ∧ (∃ o xs, H b = some (.frz o (.lst xs))) ∧ K.lookup b = none) :
    codeAny (model P w) callerA (.call (.ref fa) ⟨[.ref a], []⟩) (fun r s' => r = .ok (.ret (.bool true)) ∧ OldK s₁.heap s'.heap ∧ s'.os = s₁.os ∧ AllBare s'.gens) s₁ := by
  have free : ∀ {b : Addr} {o : Obj}, s₁.heap.get? b = some o → H b = none → (hidT s₁.heap H).get? b = some o := fun e n => hidT_get e n
  have dictN : ∀ {b : Addr} {m : Str → Option Value}, s₁.heap.Ns b m → (hidT s₁.heap H).Ns b m := by
    rintro b m ⟨o, es, ep, e, d, r⟩
    refine ⟨o, es, ep, free e ?_, d, r⟩
    cases q : H b with
    | none => rfl
    | some u =>
      obtain ⟨rfl, _⟩ := hA b (by rw [q]; exact Option.some_ne_none _)
      rw [ha] at e
      cases e
      have z : Data.seq vs.toArray _ = Data.dict es ep := d
      cases z
  have kin : K.In (hidT s₁.heap H) := fun b o e => free (KX b o e) (by
    cases q : H b with
    | none => rfl
    | some u =>
      obtain ⟨_, _, z⟩ := hA b (by rw [q]; exact Option.some_ne_none _)
      rw [z] at e
      cases e)
  have mod : Mod K mg (hidT s₁.heap H) := ⟨kin, dictN hns, ⟨mb, dictN hb, hbb⟩, let ⟨mc, h1, h2⟩ := hlim; ⟨mc, dictN h1, h2⟩⟩
  have e0 : Env0 P w K mg (hidT s₁.heap H) callerA [] s₁ H := ⟨rfl, mod, fun b o e => of_hidT e, Nat.le_of_eq (hidT_size _ _), trivial, fun b hb => absurd (show b ∈ ([] : List Addr) from hb) (by simp), hok, .of_eq hg⟩
  obtain ⟨st, hst⟩ := hrun
  have so0 : StoOk H ⟨[], []⟩ [] := ⟨rfl, fun n a q => by simp at q, fun n ds q => by simp at q, fun n m a q1 q2 => by simp at q1, fun a q => by simp at q⟩
  have pr : spG K 1 g [.ref a] H (fun v _ => v = .bl true) E0 := by
    refine ⟨rfl, [.s ns], ⟨[], []⟩, [], .d (.bool true), st, .cons ⟨a, rfl, hS⟩ .nil, so0, hst, fun v H' cs' _ _ q => ?_⟩
    have q' : Dq H' cs' v (.bool true) := q
    cases q'
    rfl
  refine codeAny_mono ((F _ kin (dictN hns)).run callerA [] s₁ H ⟨[.ref a], []⟩ [.ref a] [.ref a] _ rfl hr e0 (hbind s₁ (.ref a)) (.cons rfl .nil) pr) fun r s' h => ?_
  match r, h with
  | .error e, h => exact h.elim
  | .ok .next, h => exact False.elim h
  | .ok .brk, h => exact False.elim h
  | .ok .cont, h => exact False.elim h
  | .ok (.ret u), h =>
    obtain ⟨v, H', os, bare, un, hok', r', q⟩ := h
    have q' : v = .bl true := q
    subst q'
    obtain rfl : u = Value.bool true := r'
    refine ⟨rfl, OldK.of_keep fun b o e => ?_, os, bare⟩
    cases q : H b with
    | none => exact un.keep b o e q (by intro z; exact absurd (show b ∈ ([] : List Addr) from z) (by simp)) (by simp)
    | some u =>
      obtain ⟨_, ⟨ob, xs, z⟩, _⟩ := hA b (by rw [q]; exact Option.some_ne_none _)
      have e1 := (hok b _ z).1
      have e2 := (hok' b _ (un.frzs b ob _ z)).1
      rw [e] at e1
      cases e1
      exact e2
theorem end_call {P : Program} {w : World} {K : PySem.W.Frag} {mg mb : Str → Option Value} {k : Nat} {fa a : Addr} {fd : FuncData} {x : Str} {g : Gf} {s₁ : Shared} {vs : List Value} {ns : List Int}
    (KX : K.In s₁.heap) (hns : s₁.heap.Ns mainGlobals mg) (hb : s₁.heap.Ns builtinsNs mb) (hbb : ∀ x : Str, x ≠ "__name__" → mb x = bootBuiltins x) (hlim : s₁.heap.NoLimit) (hg : s₁.gens = #[])
    (ha : s₁.heap.get? a = some { cls := .type "list", data := .seq vs.toArray }) (hi : IntsAre vs ns) (hl : ns.length ≤ sizeLine) (hr : Room k callerA)
    (F : ∀ base : Heap, K.In base → base.Ns mainGlobals mg → FnG P w K mg base k fa fd [x] (spG K 1 g)) (hbind : ∀ (s : Shared) (u : Value), BindsTo s fd ⟨[u], []⟩ [(x, u)])
    (hrun : ∃ st, g [.s ns] [] = some (.d (.bool true), st)) :
    codeAny (model P w) callerA (.call (.ref fa) ⟨[.ref a], []⟩) (fun r s' => r = .ok (.ret (.bool true)) ∧ OldK s₁.heap s'.heap ∧ s'.os = s₁.os ∧ AllBare s'.gens) s₁ := by
  have rv := vals_ints hi
  have lenV := hi.length
  cases hk : K.lookup a with
  | some o =>
    have e := KX a o hk
    rw [ha] at e
    cases e
    exact end_core (H := fun _ => none) KX hns hb hbb hlim hg ha hr F hbind hrun (.inr (.inr ⟨_, vs.toArray, _, hk, rfl, rfl, rfl, by rw [List.size_toArray, lenV]; exact hl, by simpa using rv⟩)) (fun b u z => by cases (show (none : Option HO) = some u from z)) fun b z => absurd rfl z
  | none =>
    refine end_core (H := fun b => if b = a then some (.frz { cls := .type "list", data := .seq vs.toArray } (.lst (ns.map V.int))) else none) KX hns hb hbb hlim hg ha hr F hbind hrun (.inl ⟨_, if_pos rfl⟩) (fun b u z => ?_) fun b z => ?_
    all_goals by_cases q : b = a
    · subst q
      cases (if_pos rfl).symm.trans z
      exact ⟨ha, by rw [List.length_map]; exact hl, vs, _, rv, ha⟩
    · cases (if_neg q).symm.trans z
    · subst q
      exact ⟨rfl, ⟨_, _, if_pos rfl⟩, hk⟩
    · exact absurd (if_neg q) z
/-- the goal that the head leaves -/
theorem end_walk {l : PySem.W.OpenLaw} {n k : Nat} {q : Program} {loose : List Str} {XP : (Str → Option Value) → Heap → Prop} {YP : World → Heap → Prop} {d : DefRec} {x : Str} {g : Gf}
    (hn : l.most = some n) (hn2 : n ≤ sizeLine) (hdf : d.params.defaults = []) (hr : Room k callerA)
    (F : ∀ (w : World) (mg : Str → Option Value) (fa : Addr) (h : Heap), YP w h → h.Ns mainGlobals mg → mg d.name = some (.ref fa) →
      ∃ (K : PySem.W.Frag) (fd : FuncData), K.In h ∧ (∀ (s : Shared) (u : Value), BindsTo s fd ⟨[u], []⟩ [(x, u)]) ∧ ∀ base : Heap, K.In base → base.Ns mainGlobals mg → FnG l.prog w K mg base k fa fd [x] (spG K 1 g))
    (hrun : ∀ ns : List Int, ns.length ≤ n → ∃ st, g [.s ns] [] = some (.d (.bool true), st)) :
    PySem.W.WalkO q loose XP YP l.row.toRowW d [] (fun f vs => PySem.call f vs) := by
  refine Att.attach_call hn hdf fun w s₀ s₁ mg mb fa o pm cd doc a vs ns G Y ho hd hcd hmg hobj hints hlen hg => ?_
  obtain ⟨K, fd, KX, hb, hF⟩ := F w mg fa _ Y G.T.g hmg
  exact end_call KX G.T.g G.T.b G.T.builtins G.T.nolimit hg hobj hints (Nat.le_trans hlen hn2) hr hF hb (hrun ns hlen)
end EF

set_option Elab.async false
set_option linter.all false
set_option maxRecDepth 100000
/-! EF19: reckoning with what terms do. -/
namespace EF
open PySem PySem.Spec PyProof.Rows L2

def Ok {α : Type} (r : Option (α × Sto)) (P : α → Sto → Prop) : Prop := ∃ a s, r = some (a, s) ∧ P a s
section
variable {α β : Type} {st : Sto}
theorem ok_bind {m : M α} {k : α → M β} {P : β → Sto → Prop} : Ok ((m >>= k) st) P ↔ Ok (m st) fun a s => Ok (k a s) P := by
  constructor
  · rintro ⟨b, s, h, p⟩
    obtain ⟨a, s1, e1, e2⟩ := bind_some h
    exact ⟨a, s1, e1, b, s, e2, p⟩
  · rintro ⟨a, s1, e1, b, s, e2, p⟩
    exact ⟨b, s, by rw [bind_eq e1]; exact e2, p⟩
theorem ok_pure {a : α} {P : α → Sto → Prop} : Ok ((pure a : M α) st) P ↔ P a st := by
  constructor
  · rintro ⟨b, s, h, p⟩
    obtain ⟨rfl, rfl⟩ := pure_some h
    exact p
  · exact fun p => ⟨a, st, rfl, p⟩
theorem ok_some {a : α} {s : Sto} {P : α → Sto → Prop} : Ok (some (a, s)) P ↔ P a s := by
  constructor
  · rintro ⟨b, s, h, p⟩
    cases h
    exact p
  · exact fun p => ⟨a, s, rfl, p⟩
theorem ok_opt {a : α} {P : α → Sto → Prop} : Ok (ofOpt (some a) st) P ↔ P a st := ok_some
theorem ok_fail {P : α → Sto → Prop} : Ok ((fail : M α) st) P ↔ False := ⟨fun ⟨_, _, h, _⟩ => (by cases h), False.elim⟩
theorem Ok.mono {r : Option (α × Sto)} {P Q : α → Sto → Prop} (h : Ok r P) (k : ∀ a s, P a s → Q a s) : Ok r Q := let ⟨a, s, e, p⟩ := h; ⟨a, s, e, k a s p⟩
theorem ok_if {c : Prop} [Decidable c] {m n : M α} {P : α → Sto → Prop} : Ok ((if c then m else n) st) P ↔ (c → Ok (m st) P) ∧ (¬ c → Ok (n st) P) := by
  by_cases h : c
  · rw [if_pos h]; exact ⟨fun q => ⟨fun _ => q, fun z => absurd h z⟩, fun q => q.1 h⟩
  · rw [if_neg h]; exact ⟨fun q => ⟨fun z => absurd z h, fun _ => q⟩, fun q => q.2 h⟩
theorem ok_fn {n : Nat} {body : XS} {ws : List W} {P : W → Sto → Prop} : Ok (fnM n body ws st) P ↔ Ok (body (startR n ws) st) fun fl s => ∃ r, endM (fl, s) st.length = some r ∧ P r.1 r.2 := by
  unfold fnM Ok
  cases e : body (startR n ws) st with
  | none => simp
  | some p =>
    obtain ⟨fl, s⟩ := p
    constructor
    · rintro ⟨w, s', h, q⟩
      exact ⟨fl, s, rfl, (w, s'), h, q⟩
    · rintro ⟨fl', s', h, r, hr, q⟩
      cases h
      exact ⟨r.1, r.2, hr, q⟩
theorem end_d {x : PyData} {s : Sto} {n : Nat} : endM (.rt (.d x), s) n = some (.d x, s.take n) := rfl
theorem end_nx {ρ : Rho} {s : Sto} {n : Nat} : endM (.nx ρ, s) n = some (.d .none, s.take n) := rfl
theorem end_c {m n : Nat} {s : Sto} : endM (.rt (.c m), s) n = if m = n ∧ n < s.length then some (.c m, s.take (n + 1)) else none := rfl
/-! ### operators on ints -/
variable {i j : Int}
theorem add_ii : addD (.int i) (.int j) = some (.int (i + j)) := rfl
theorem sub_ii : subD (.int i) (.int j) = some (.int (i - j)) := rfl
theorem mod_ii (h : 0 < j) : modD (.int i) (.int j) = some (.int (i % j)) := by simp [modD, iiD, h]
theorem mul_ii (h1 : i.natAbs < 2 ^ 4096) (h2 : j.natAbs < 2 ^ 4096) : mulD (.int i) (.int j) = some (.int (i * j)) := by
  have e : (mid i && mid j) = true := by rw [Bool.and_eq_true]; exact ⟨decide_eq_true h1, decide_eq_true h2⟩
  unfold mulD mulI iiD
  simp only [e, if_true]
  rfl
theorem fdiv_ii (h : 0 < j) (h2 : j.natAbs < 2 ^ 4096) : fdivD (.int i) (.int j) = some (.int (i / j)) := by
  have e : (decide (0 < j) && mid j) = true := by rw [Bool.and_eq_true]; exact ⟨decide_eq_true h, decide_eq_true h2⟩
  unfold fdivD iiD
  simp only [e, if_true]
theorem lt_ii : ltD (.int i) (.int j) = some (.bool (decide (i < j))) := rfl
theorem le_ii : leD (.int i) (.int j) = some (.bool (decide (i ≤ j))) := rfl
theorem gt_ii : gtD (.int i) (.int j) = some (.bool (decide (j < i))) := rfl
theorem ge_ii : geD (.int i) (.int j) = some (.bool (decide (j ≤ i))) := rfl
theorem eqv_ii : PyData.eqv (.int i) (.int j) = decide (i = j) := by unfold PyData.eqv; rfl
theorem eq_ii : eqD (.int i) (.int j) = some (.bool (decide (i = j))) := by
  unfold eqD
  rw [eqv_ii]; rfl
theorem ne_ii : neD (.int i) (.int j) = some (.bool (!decide (i = j))) := by
  unfold neD
  rw [eqv_ii]; rfl
theorem int_i : intD (.int i) = some (.int i) := rfl
end
def OkO {α : Type} (o : Option α) (P : α → Prop) : Prop := ∃ a, o = some a ∧ P a
section
variable {α β : Type} {st : Sto} {ρ : Rho}
theorem oko_some {a : α} {P : α → Prop} : OkO (some a) P ↔ P a := ⟨fun ⟨b, h, p⟩ => (by cases h; exact p), fun p => ⟨a, rfl, p⟩⟩
theorem oko_none {P : α → Prop} : OkO (none : Option α) P ↔ False := ⟨fun ⟨b, h, p⟩ => (by cases h), False.elim⟩
theorem OkO.of {o : Option α} {a : α} {P : α → Prop} (h : o = some a) (p : P a) : OkO o P := ⟨a, h, p⟩
theorem ok_ofOpt {o : Option α} {P : α → Sto → Prop} : Ok (ofOpt o st) P ↔ OkO o fun a => P a st := by
  cases o with
  | none => exact ⟨fun ⟨_, _, h, _⟩ => (by cases h), fun ⟨_, h, _⟩ => (by cases h)⟩
  | some a => exact ok_some.trans (oko_some (P := fun a => P a st)).symm
/-! ### expressions -/
variable {P : PyData → Sto → Prop} {f f1 f2 f3 : XE}
theorem ok_rdV {i : Nat} : Ok (rdV i ρ st) P ↔ OkO (slotD ρ[i]?) fun x => P x st := ok_ofOpt
theorem slotD_d {x : PyData} : slotD (some (some (.d x))) = some x := rfl
theorem ok_bin2 {g : PyData → PyData → Option PyData} : Ok (bin2 g f1 f2 ρ st) P ↔ Ok (f1 ρ st) fun x s => Ok (f2 ρ s) fun y s' => OkO (g x y) fun z => P z s' := by
  unfold bin2
  simp only [ok_bind, ok_ofOpt]
theorem ok_un1 {g : PyData → Option PyData} : Ok (un1 g f ρ st) P ↔ Ok (f ρ st) fun x s => OkO (g x) fun z => P z s := by
  unfold un1
  simp only [ok_bind, ok_ofOpt]
theorem ok_k {d : PyData} : Ok ((fun _ => pure d : XE) ρ st) P ↔ P d st := ok_pure
def IsB (P : Bool → Sto → Prop) : PyData → Sto → Prop
  | .bool b, s => P b s
  | _, _ => False
theorem isB_b {P : Bool → Sto → Prop} {b : Bool} {s : Sto} : IsB P (.bool b) s = P b s := rfl
theorem ok_asB {P : Bool → Sto → Prop} : Ok (asB f ρ st) P ↔ Ok (f ρ st) (IsB P) := by
  unfold asB
  rw [ok_bind]
  constructor
  · rintro ⟨x, s, e, p⟩
    refine ⟨x, s, e, ?_⟩
    cases x with
    | bool b => exact (ok_pure (P := P)).mp p
    | _ => exact (ok_fail.mp p).elim
  · rintro ⟨x, s, e, p⟩
    refine ⟨x, s, e, ?_⟩
    cases x with
    | bool b => exact ok_pure.mpr p
    | _ => exact p.elim
theorem ok_andX : Ok (andX f1 f2 ρ st) P ↔ Ok (f1 ρ st) (IsB fun b s => (b = true → Ok (f2 ρ s) P) ∧ (b = false → P (.bool false) s)) := by
  unfold andX
  rw [ok_bind]
  constructor
  · rintro ⟨x, s, e, p⟩
    refine ⟨x, s, e, ?_⟩
    cases x with
    | bool b => cases b with
      | true => exact ⟨fun _ => p, fun z => (by cases z)⟩
      | false => exact ⟨fun z => (by cases z), fun _ => ok_pure.mp p⟩
    | _ => exact (ok_fail.mp p).elim
  · rintro ⟨x, s, e, p⟩
    refine ⟨x, s, e, ?_⟩
    cases x with
    | bool b => cases b with
      | true => exact p.1 rfl
      | false => exact ok_pure.mpr (p.2 rfl)
    | _ => exact p.elim
theorem ok_orX : Ok (orX f1 f2 ρ st) P ↔ Ok (f1 ρ st) (IsB fun b s => (b = false → Ok (f2 ρ s) P) ∧ (b = true → P (.bool true) s)) := by
  unfold orX
  rw [ok_bind]
  constructor
  · rintro ⟨x, s, e, p⟩
    refine ⟨x, s, e, ?_⟩
    cases x with
    | bool b => cases b with
      | false => exact ⟨fun _ => p, fun z => (by cases z)⟩
      | true => exact ⟨fun z => (by cases z), fun _ => ok_pure.mp p⟩
    | _ => exact (ok_fail.mp p).elim
  · rintro ⟨x, s, e, p⟩
    refine ⟨x, s, e, ?_⟩
    cases x with
    | bool b => cases b with
      | false => exact p.1 rfl
      | true => exact ok_pure.mpr (p.2 rfl)
    | _ => exact p.elim
theorem ok_notX : Ok (notX f ρ st) P ↔ Ok (f ρ st) (IsB fun b s => P (.bool (!b)) s) := by
  unfold notX
  rw [ok_bind]
  constructor
  · rintro ⟨x, s, e, p⟩
    refine ⟨x, s, e, ?_⟩
    cases x with
    | bool b => exact (ok_pure (P := P)).mp p
    | _ => exact (ok_fail.mp p).elim
  · rintro ⟨x, s, e, p⟩
    refine ⟨x, s, e, ?_⟩
    cases x with
    | bool b => exact ok_pure.mpr p
    | _ => exact p.elim
theorem ok_andB {c1 c2 : XB} {P : Bool → Sto → Prop} : Ok (andB c1 c2 ρ st) P ↔ Ok (c1 ρ st) fun b s => (b = true → Ok (c2 ρ s) P) ∧ (b = false → P false s) := by
  unfold andB
  rw [ok_bind]
  constructor <;> rintro ⟨b, s, e, p⟩ <;> refine ⟨b, s, e, ?_⟩
  · rw [ok_if] at p
    exact ⟨p.1, fun z => ok_pure.mp (p.2 (by rw [z]; exact Bool.false_ne_true))⟩
  · exact ok_if.mpr ⟨p.1, fun z => ok_pure.mpr (p.2 (by simpa using z))⟩
theorem ok_orB {c1 c2 : XB} {P : Bool → Sto → Prop} : Ok (orB c1 c2 ρ st) P ↔ Ok (c1 ρ st) fun b s => (b = true → P true s) ∧ (b = false → Ok (c2 ρ s) P) := by
  unfold orB
  rw [ok_bind]
  constructor <;> rintro ⟨b, s, e, p⟩ <;> refine ⟨b, s, e, ?_⟩
  · rw [ok_if] at p
    exact ⟨fun z => ok_pure.mp (p.1 z), fun z => p.2 (by rw [z]; exact Bool.false_ne_true)⟩
  · exact ok_if.mpr ⟨fun z => ok_pure.mpr (p.1 z), fun z => p.2 (by simpa using z)⟩
theorem ok_notB {c1 : XB} {P : Bool → Sto → Prop} : Ok (notB c1 ρ st) P ↔ Ok (c1 ρ st) fun b s => P (!b) s := by
  unfold notB
  simp only [ok_bind, ok_pure]
theorem ok_iteX {c : XB} : Ok (iteX c f1 f2 ρ st) P ↔ Ok (c ρ st) fun b s => (b = true → Ok (f1 ρ s) P) ∧ (b = false → Ok (f2 ρ s) P) := by
  unfold iteX
  rw [ok_bind]
  constructor <;> rintro ⟨b, s, e, p⟩ <;> refine ⟨b, s, e, ?_⟩
  · rw [ok_if] at p
    exact ⟨p.1, fun z => p.2 (by rw [z]; exact Bool.false_ne_true)⟩
  · exact ok_if.mpr ⟨p.1, fun z => p.2 (by simpa using z)⟩
theorem ok_nilX {P : List PyData → Sto → Prop} : Ok (nilX ρ st) P ↔ P [] st := ok_pure
theorem ok_consX {r : Rho → M (List PyData)} {P : List PyData → Sto → Prop} : Ok (consX f r ρ st) P ↔ Ok (f ρ st) fun x s => Ok (r ρ s) fun xs s' => P (x :: xs) s' := by
  unfold consX
  simp only [ok_bind, ok_pure]
theorem ok_tupX {r : Rho → M (List PyData)} : Ok (tupX r ρ st) P ↔ Ok (r ρ st) fun xs s => xs.length ≤ sizeLine ∧ P (.tuple xs) s := by
  unfold tupX
  rw [ok_bind]
  constructor <;> rintro ⟨b, s, e, p⟩ <;> refine ⟨b, s, e, ?_⟩
  · rw [ok_if] at p
    by_cases h : fits b = true
    · exact ⟨of_decide_eq_true h, ok_pure.mp (p.1 h)⟩
    · exact (ok_fail.mp (p.2 h)).elim
  · exact ok_if.mpr ⟨fun _ => ok_pure.mpr p.2, fun z => absurd (decide_eq_true p.1) z⟩
theorem ok_fitX {r : Rho → M (List PyData)} {P : List PyData → Sto → Prop} : Ok (fitX r ρ st) P ↔ Ok (r ρ st) fun xs s => xs.length ≤ sizeLine ∧ P xs s := by
  unfold fitX
  rw [ok_bind]
  constructor <;> rintro ⟨b, s, e, p⟩ <;> refine ⟨b, s, e, ?_⟩
  · rw [ok_if] at p
    by_cases h : fits b = true
    · exact ⟨of_decide_eq_true h, ok_pure.mp (p.1 h)⟩
    · exact (ok_fail.mp (p.2 h)).elim
  · exact ok_if.mpr ⟨fun _ => ok_pure.mpr p.2, fun z => absurd (decide_eq_true p.1) z⟩
theorem ok_lsX {r : Rho → M (List PyData)} : Ok (lsX r ρ st) P ↔ Ok (r ρ st) fun xs s => P (.list xs) s := by
  unfold lsX
  simp only [ok_bind, ok_pure]
def IsI (P : Int → Sto → Prop) : PyData → Sto → Prop
  | .int i, s => P i s
  | _, _ => False
theorem isI_i {P : Int → Sto → Prop} {b : Int} {s : Sto} : IsI P (.int b) s = P b s := rfl
theorem ok_cixX {i : Nat} : Ok (cixX i f ρ st) P ↔ Ok (f ρ st) (IsI fun j s => Ok (rdC i ρ s) fun ds s' => OkO (atI ds j) fun z => P z s') := by
  unfold cixX
  simp only [ok_bind]
  constructor
  · rintro ⟨x, s, e, y, s2, e2, p⟩
    refine ⟨x, s, e, ?_⟩
    cases x with
    | int j => exact ⟨y, s2, e2, ok_ofOpt.mp p⟩
    | _ => exact (ok_fail.mp p).elim
  · rintro ⟨x, s, e, p⟩
    cases x with
    | int j =>
      obtain ⟨y, s2, e2, p⟩ := p
      exact ⟨_, s, e, y, s2, e2, ok_ofOpt.mpr p⟩
    | _ => exact p.elim
theorem ok_someO {P : Option Int → Sto → Prop} : Ok (someO f ρ st) P ↔ Ok (f ρ st) (IsI fun j s => P (some j) s) := by
  unfold someO
  rw [ok_bind]
  constructor
  · rintro ⟨x, s, e, p⟩
    refine ⟨x, s, e, ?_⟩
    cases x with
    | int b => exact (ok_pure (P := P)).mp p
    | _ => exact (ok_fail.mp p).elim
  · rintro ⟨x, s, e, p⟩
    refine ⟨x, s, e, ?_⟩
    cases x with
    | int b => exact ok_pure.mpr p
    | _ => exact p.elim
theorem ok_noO {P : Option Int → Sto → Prop} : Ok (noO ρ st) P ↔ P none st := ok_pure
theorem ok_sliX {lo hi : XO} : Ok (sliX f lo hi ρ st) P ↔ Ok (f ρ st) fun x s => Ok (lo ρ s) fun l s2 => Ok (hi ρ s2) fun h s3 => OkO (sliD x l h) fun z => P z s3 := by
  unfold sliX
  simp only [ok_bind, ok_ofOpt]
theorem ok_csliX {i : Nat} {lo hi : XO} : Ok (csliX i lo hi ρ st) P ↔ Ok (lo ρ st) fun l s2 => Ok (hi ρ s2) fun h s3 => Ok (rdC i ρ s3) fun ds s4 => P (.list (cutD ds l h)) s4 := by
  unfold csliX
  simp only [ok_bind, ok_pure]
theorem ok_rdCV {i : Nat} : Ok (rdCV i ρ st) P ↔ Ok (rdC i ρ st) fun ds s => P (.list ds) s := by
  unfold rdCV
  simp only [ok_bind, ok_pure]
theorem ok_tyX {neg : Bool} {T : String} : Ok (tyX neg T f ρ st) P ↔ Ok (f ρ st) fun x s => P (.bool (if neg = true then !decide (tyName x = T) else decide (tyName x = T))) s := by
  unfold tyX
  simp only [ok_bind, ok_pure]
theorem ok_isiX {T : String} : Ok (isiX T f ρ st) P ↔ Ok (f ρ st) fun x s => P (.bool (isTab (tyName x) T)) s := by
  unfold isiX
  simp only [ok_bind, ok_pure]
theorem ok_chn {g g' : PyData → PyData → Option PyData} : Ok (chn g g' f1 f2 f3 ρ st) P ↔ Ok (f1 ρ st) fun x s => Ok (f2 ρ s) fun y s2 => OkO (g x y) fun t => IsB (fun b s3 => (b = true → Ok (f3 ρ s3) fun z s4 => OkO (g' y z) fun u => P u s4) ∧ (b = false → P (.bool false) s3)) t s2 := by
  unfold chn
  simp only [ok_bind, ok_ofOpt]
  constructor
  · rintro ⟨x, s, e, y, s2, e2, t, e3, p⟩
    refine ⟨x, s, e, y, s2, e2, t, e3, ?_⟩
    cases t with
    | bool b => cases b with
      | true => exact ⟨fun _ => by simpa only [ok_bind, ok_ofOpt] using p, fun z => (by cases z)⟩
      | false => exact ⟨fun z => (by cases z), fun _ => ok_pure.mp p⟩
    | _ => exact (ok_fail.mp p).elim
  · rintro ⟨x, s, e, y, s2, e2, t, e3, p⟩
    refine ⟨x, s, e, y, s2, e2, t, e3, ?_⟩
    cases t with
    | bool b => cases b with
      | true =>
        have q := p.1 rfl
        simpa only [ok_bind, ok_ofOpt] using q
      | false => exact ok_pure.mpr (p.2 rfl)
    | _ => exact p.elim
/-! ### calls -/
theorem ok_nilW {P : List W → Sto → Prop} : Ok (nilW ρ st) P ↔ P [] st := ok_pure
theorem ok_consW {g : Rho → M W} {r : Rho → M (List W)} {P : List W → Sto → Prop} : Ok (consW g r ρ st) P ↔ Ok (g ρ st) fun x s => Ok (r ρ s) fun xs s' => P (x :: xs) s' := by
  unfold consW
  simp only [ok_bind, ok_pure]
theorem ok_datW {P : W → Sto → Prop} : Ok (datW f ρ st) P ↔ Ok (f ρ st) fun x s => P (.d x) s := by
  unfold datW
  simp only [ok_bind, ok_pure]
def slotC : Option (Option W) → Option Nat
  | some (some (.c n)) => some n
  | _ => none
theorem slotC_c {n : Nat} : slotC (some (some (.c n))) = some n := rfl
theorem cellNo_eq {i : Nat} : cellNo i ρ = ofOpt (slotC ρ[i]?) := by
  unfold cellNo slotC
  generalize ρ[i]? = o
  rcases o with _ | _ | w
  · rfl
  · rfl
  · cases w <;> rfl
theorem ok_cellNo {i : Nat} {P : Nat → Sto → Prop} : Ok (cellNo i ρ st) P ↔ OkO (slotC ρ[i]?) fun n => P n st := by
  rw [cellNo_eq]
  exact ok_ofOpt
theorem ok_celW {i : Nat} {P : W → Sto → Prop} : Ok (celW i ρ st) P ↔ OkO (slotC ρ[i]?) fun n => P (.c n) st := by
  unfold celW
  simp only [ok_bind, ok_pure, ok_cellNo]
def IsD (P : PyData → Sto → Prop) : W → Sto → Prop
  | .d x, s => P x s
  | _, _ => False
theorem isD_d {P : PyData → Sto → Prop} {x : PyData} {s : Sto} : IsD P (.d x) s = P x s := rfl
theorem ok_wD {w : W} : Ok (wD w st) P ↔ IsD P w st := by
  cases w with
  | d x => exact ok_pure
  | _ => exact ok_fail (st := st) (P := P)
theorem ok_callX {g : Gf} {r : Rho → M (List W)} : Ok (callX g r ρ st) P ↔ Ok (r ρ st) fun ws s => Ok (g ws s) (IsD P) := by
  unfold callX
  simp only [ok_bind, ok_wD]
/-! ### statements -/
variable {Q : Fl → Sto → Prop} {h h1 h2 : XS}
def Then (f2 : XS) (Q : Fl → Sto → Prop) : Fl → Sto → Prop
  | .nx ρ', s => Ok (f2 ρ' s) Q
  | o, s => Q o s
theorem then_nx {s : Sto} : Then h Q (.nx ρ) s = Ok (h ρ s) Q := rfl
theorem then_rt {w : W} {s : Sto} : Then h Q (.rt w) s = Q (.rt w) s := rfl
theorem then_bk {s : Sto} : Then h Q (.bk ρ) s = Q (.bk ρ) s := rfl
theorem then_ct {s : Sto} : Then h Q (.ct ρ) s = Q (.ct ρ) s := rfl
theorem ok_seq : Ok (seqS h1 h2 ρ st) Q ↔ Ok (h1 ρ st) (Then h2 Q) := by
  unfold seqS
  rw [ok_bind]
  constructor <;> rintro ⟨fl, s, e, p⟩ <;> refine ⟨fl, s, e, ?_⟩ <;> cases fl <;> first | exact p | exact (ok_pure (P := Q)).mp p | exact (ok_pure (P := Q)).mpr p
theorem ok_skip : Ok (skipS ρ st) Q ↔ Q (.nx ρ) st := ok_pure
theorem ok_brk : Ok (brkS ρ st) Q ↔ Q (.bk ρ) st := ok_pure
theorem ok_cnt : Ok (cntS ρ st) Q ↔ Q (.ct ρ) st := ok_pure
theorem ok_retn : Ok (retnS ρ st) Q ↔ Q (.rt (.d .none)) st := ok_pure
theorem ok_nev : Ok (nevS ρ st) Q ↔ False := ok_fail
theorem ok_ret : Ok (retS f ρ st) Q ↔ Ok (f ρ st) fun x s => Q (.rt (.d x)) s := by
  unfold retS
  simp only [ok_bind, ok_pure]
theorem ok_drop : Ok (dropS f ρ st) Q ↔ Ok (f ρ st) fun _ s => Q (.nx ρ) s := by
  unfold dropS
  simp only [ok_bind, ok_pure]
theorem ok_set1 {i : Nat} : Ok (set1S i f ρ st) Q ↔ Ok (f ρ st) fun x s => Q (.nx (ρ.set i (some (.d x)))) s := by
  unfold set1S
  simp only [ok_bind, ok_pure]
theorem ok_setS {g : G} : Ok (setS g f ρ st) Q ↔ Ok (f ρ st) fun x s => OkO (g.put x ρ) fun ρ' => Q (.nx ρ') s := by
  unfold setS
  simp only [ok_bind, ok_pure, ok_ofOpt]
theorem ok_push {ds : List PyData} {P : Nat → Sto → Prop} : Ok (pushM ds st) P ↔ P st.length (st ++ [some ds]) := ok_some
theorem ok_new {i : Nat} {r : Rho → M (List PyData)} : Ok (newS i r ρ st) Q ↔ Ok (r ρ st) fun ds s => Q (.nx (ρ.set i (some (.c s.length)))) (s ++ [some ds]) := by
  unfold newS
  simp only [ok_bind, ok_pure, ok_push]
theorem ok_retc {r : Rho → M (List PyData)} : Ok (retcS r ρ st) Q ↔ Ok (r ρ st) fun ds s => Q (.rt (.c s.length)) (s ++ [some ds]) := by
  unfold retcS
  simp only [ok_bind, ok_pure, ok_push]
theorem ok_setc {i : Nat} {g : Gf} {r : Rho → M (List W)} : Ok (setcX i g r ρ st) Q ↔ Ok (r ρ st) fun ws s => Ok (g ws s) fun w s' => Q (.nx (ρ.set i (some w))) s' := by
  unfold setcX
  simp only [ok_bind, ok_pure]
def IsP (i j : Nat) (ρ : Rho) (Q : Fl → Sto → Prop) : List PyData → Sto → Prop
  | [x, y], s => Q (.nx ((ρ.set i (some (.d x))).set j (some (.d y)))) s
  | _, _ => False
theorem isP_p {i j : Nat} {x y : PyData} {s : Sto} : IsP i j ρ Q [x, y] s = Q (.nx ((ρ.set i (some (.d x))).set j (some (.d y)))) s := rfl
theorem ok_par {i j : Nat} {r : Rho → M (List PyData)} : Ok (parS i j r ρ st) Q ↔ Ok (r ρ st) (IsP i j ρ Q) := by
  unfold parS
  rw [ok_bind]
  constructor
  · rintro ⟨xs, s, e, p⟩
    refine ⟨xs, s, e, ?_⟩
    split at p
    · exact (ok_pure (P := Q)).mp p
    · exact (ok_fail.mp p).elim
  · rintro ⟨xs, s, e, p⟩
    refine ⟨xs, s, e, ?_⟩
    match xs, p with
    | [x, y], p => exact ok_pure.mpr p
    | [], p => exact p.elim
    | [_], p => exact p.elim
    | _ :: _ :: _ :: _, p => exact p.elim
theorem ok_ifS {c : XB} : Ok (ifS c h1 h2 ρ st) Q ↔ Ok (c ρ st) fun b s => (b = true → Ok (h1 ρ s) Q) ∧ (b = false → Ok (h2 ρ s) Q) := by
  unfold ifS
  rw [ok_bind]
  constructor <;> rintro ⟨b, s, e, p⟩ <;> refine ⟨b, s, e, ?_⟩
  · rw [ok_if] at p
    exact ⟨p.1, fun z => p.2 (by rw [z]; exact Bool.false_ne_true)⟩
  · exact ok_if.mpr ⟨p.1, fun z => p.2 (by simpa using z)⟩
def lstAt (st : Sto) (n : Nat) : Option (List PyData) := (st[n]?).bind id
theorem ok_getM {n : Nat} {P : List PyData → Sto → Prop} : Ok (getM n st) P ↔ OkO (lstAt st n) fun ds => P ds st := by
  unfold getM lstAt
  cases st[n]? with
  | none => exact ⟨fun ⟨_, _, h, _⟩ => (by cases h), fun ⟨_, h, _⟩ => (by cases h)⟩
  | some o => cases o with
    | none => exact ⟨fun ⟨_, _, h, _⟩ => (by cases h), fun ⟨_, h, _⟩ => (by cases h)⟩
    | some ds => exact ok_some.trans (oko_some (P := fun ds => P ds st)).symm
theorem ok_rdC_c {i n : Nat} {ds : List PyData} {P : List PyData → Sto → Prop} (h1 : ρ[i]? = some (some (.c n))) (h2 : st[n]? = some (some ds)) : Ok (rdC i ρ st) P ↔ P ds st := by
  unfold rdC
  simp only [h1, h2, ok_some]
theorem ok_rdC_s {i : Nat} {xs : List Int} {P : List PyData → Sto → Prop} (h1 : ρ[i]? = some (some (.s xs))) : Ok (rdC i ρ st) P ↔ P (xs.map .int) st := by
  unfold rdC
  simp only [h1, ok_some]
def contD (st : Sto) : Option (Option W) → Option (List PyData)
  | some (some (.c n)) => lstAt st n
  | some (some (.s xs)) => some (xs.map .int)
  | _ => none
theorem contD_c {n : Nat} : contD st (some (some (.c n))) = lstAt st n := rfl
theorem contD_s {xs : List Int} : contD st (some (some (.s xs))) = some (xs.map .int) := rfl
theorem ok_rdC {i : Nat} {P : List PyData → Sto → Prop} : Ok (rdC i ρ st) P ↔ OkO (contD st ρ[i]?) fun ds => P ds st := by
  unfold rdC
  generalize ρ[i]? = o
  rcases o with _ | _ | w
  · exact ⟨fun ⟨_, _, h, _⟩ => (by cases h), fun ⟨_, h, _⟩ => (by cases h)⟩
  · exact ⟨fun ⟨_, _, h, _⟩ => (by cases h), fun ⟨_, h, _⟩ => (by cases h)⟩
  · cases w with
    | d x => exact ⟨fun ⟨_, _, h, _⟩ => (by cases h), fun ⟨_, h, _⟩ => (by cases h)⟩
    | s xs => exact ok_some.trans (oko_some (P := fun ds => P ds st)).symm
    | c n =>
      show Ok (match st[n]? with | some (some ds) => some (ds, st) | _ => none) P ↔ OkO ((st[n]?).bind id) fun ds => P ds st
      cases st[n]? with
      | none => exact ⟨fun ⟨_, _, h, _⟩ => (by cases h), fun ⟨_, h, _⟩ => (by cases h)⟩
      | some o => cases o with
        | none => exact ⟨fun ⟨_, _, h, _⟩ => (by cases h), fun ⟨_, h, _⟩ => (by cases h)⟩
        | some ds => exact ok_some.trans (oko_some (P := fun ds => P ds st)).symm
theorem lstAt_set {n : Nat} {ds : List PyData} (h : n < st.length) : lstAt (st.set n (some ds)) n = some ds := by
  unfold lstAt
  rw [List.getElem?_set_self h]; rfl
theorem lstAt_of {n : Nat} {ds : List PyData} (h : st[n]? = some (some ds)) : lstAt st n = some ds := by
  unfold lstAt
  rw [h]; rfl
theorem at3_0 {x y z : PyData} : atI [x, y, z] 0 = some x := rfl
theorem at3_1 {x y z : PyData} : atI [x, y, z] 1 = some y := rfl
theorem at3_2 {x y z : PyData} : atI [x, y, z] 2 = some z := rfl
theorem ix3_0 : ixN 3 0 = some 0 := rfl
theorem ix3_1 : ixN 3 1 = some 1 := rfl
theorem ix3_2 : ixN 3 2 = some 2 := rfl
theorem ok_putM {n : Nat} {ds : List PyData} {P : Unit → Sto → Prop} : Ok (putM n ds st) P ↔ P () (st.set n (some ds)) := ok_some
theorem ok_putX {i : Nat} {fj : XE} : Ok (putX i fj f ρ st) Q ↔ Ok (f ρ st) fun y s => Ok (fj ρ s) fun j s2 => OkO (slotC ρ[i]?) fun n => OkO (lstAt s2 n) fun ds => OkO (match j with | .int j => ixN ds.length j | _ => none) fun m => Q (.nx ρ) (s2.set n (some (ds.set m y))) := by
  unfold putX
  simp only [ok_bind, ok_pure, ok_cellNo, ok_getM, ok_putM, ok_ofOpt]
  all_goals exact Iff.rfl
theorem ok_appX {i : Nat} : Ok (appX i f ρ st) P ↔ OkO (slotC ρ[i]?) fun n => OkO (lstAt st n) fun _ => Ok (f ρ st) fun y s => OkO (lstAt s n) fun ds => ds.length < sizeLine ∧ P .none (s.set n (some (ds ++ [y]))) := by
  unfold appX
  simp only [ok_bind, ok_cellNo, ok_getM, ok_if, ok_pure, ok_putM, ok_fail]
  constructor
  · rintro ⟨n, e, d, e2, y, s, e3, ds, e4, h1, h2⟩
    refine ⟨n, e, d, e2, y, s, e3, ds, e4, ?_⟩
    by_cases h : ds.length < sizeLine
    · exact ⟨h, h1 h⟩
    · exact (h2 h).elim
  · rintro ⟨n, e, d, e2, y, s, e3, ds, e4, h1, h2⟩
    exact ⟨n, e, d, e2, y, s, e3, ds, e4, fun _ => h2, fun z => absurd h1 z⟩
end
/-! ### operators, in goals -/
section
variable {i j : Int} {P : PyData → Prop}
theorem o_add : OkO (addD (.int i) (.int j)) P ↔ P (.int (i + j)) := by rw [add_ii, oko_some]
theorem o_sub : OkO (subD (.int i) (.int j)) P ↔ P (.int (i - j)) := by rw [sub_ii, oko_some]
theorem o_mul : OkO (mulD (.int i) (.int j)) P ↔ (i.natAbs < 2 ^ 4096 ∧ j.natAbs < 2 ^ 4096) ∧ P (.int (i * j)) := by
  by_cases h : i.natAbs < 2 ^ 4096 ∧ j.natAbs < 2 ^ 4096
  · rw [mul_ii h.1 h.2, oko_some]; exact ⟨fun p => ⟨h, p⟩, fun p => p.2⟩
  · have e : (mid i && mid j) = false := by
      cases q : (mid i && mid j) with
      | false => rfl
      | true =>
        rw [Bool.and_eq_true] at q
        exact absurd ⟨of_decide_eq_true q.1, of_decide_eq_true q.2⟩ h
    have e2 : mulD (.int i) (.int j) = none := by
      unfold mulD mulI iiD
      simp only [e]
      rfl
    rw [e2, oko_none]
    exact ⟨False.elim, fun p => absurd p.1 h⟩
theorem o_mod : OkO (modD (.int i) (.int j)) P ↔ 0 < j ∧ P (.int (i % j)) := by
  by_cases h : 0 < j
  · rw [mod_ii h, oko_some]; exact ⟨fun p => ⟨h, p⟩, fun p => p.2⟩
  · simp [modD, iiD, h, OkO]
theorem o_fdiv : OkO (fdivD (.int i) (.int j)) P ↔ (0 < j ∧ j.natAbs < 2 ^ 4096) ∧ P (.int (i / j)) := by
  by_cases h : 0 < j ∧ j.natAbs < 2 ^ 4096
  · rw [fdiv_ii h.1 h.2, oko_some]; exact ⟨fun p => ⟨h, p⟩, fun p => p.2⟩
  · have e : (decide (0 < j) && mid j) = false := by
      cases q : (decide (0 < j) && mid j) with
      | false => rfl
      | true =>
        rw [Bool.and_eq_true] at q
        exact absurd ⟨of_decide_eq_true q.1, of_decide_eq_true q.2⟩ h
    have e2 : fdivD (.int i) (.int j) = none := by
      unfold fdivD iiD
      simp only [e]
      rfl
    rw [e2, oko_none]
    exact ⟨False.elim, fun p => absurd p.1 h⟩
theorem o_pow : OkO (powD (.int i) (.int j)) P ↔ (0 ≤ j ∧ j ≤ 1000000 ∧ i.natAbs < 2 ^ 64) ∧ P (.int (i ^ j.toNat)) := by
  by_cases h : 0 ≤ j ∧ j ≤ 1000000 ∧ i.natAbs < 2 ^ 64
  · have e2 : powD (.int i) (.int j) = some (.int (i ^ j.toNat)) := by
      unfold powD iiD
      simp only [h, and_self, decide_true, if_true]
    rw [e2, oko_some]; exact ⟨fun p => ⟨h, p⟩, fun p => p.2⟩
  · have e2 : powD (.int i) (.int j) = none := by
      unfold powD iiD
      simp only [decide_eq_false h]
      rfl
    rw [e2, oko_none]
    exact ⟨False.elim, fun p => absurd p.1 h⟩
theorem o_lt : OkO (ltD (.int i) (.int j)) P ↔ P (.bool (decide (i < j))) := by rw [lt_ii, oko_some]
theorem o_le : OkO (leD (.int i) (.int j)) P ↔ P (.bool (decide (i ≤ j))) := by rw [le_ii, oko_some]
theorem o_gt : OkO (gtD (.int i) (.int j)) P ↔ P (.bool (decide (j < i))) := by rw [gt_ii, oko_some]
theorem o_ge : OkO (geD (.int i) (.int j)) P ↔ P (.bool (decide (j ≤ i))) := by rw [ge_ii, oko_some]
theorem o_eq : OkO (eqD (.int i) (.int j)) P ↔ P (.bool (decide (i = j))) := by rw [eq_ii, oko_some]
theorem o_ne : OkO (neD (.int i) (.int j)) P ↔ P (.bool (!decide (i = j))) := by rw [ne_ii, oko_some]
theorem o_int : OkO (intD (.int i)) P ↔ P (.int i) := by rw [int_i, oko_some]
end
/-! ### sizes -/
def Bd (k : Nat) (x : Int) : Prop := x.natAbs < 2 ^ k
theorem bd_le {a c : Nat} {x : Int} (h : Bd a x) (l : a ≤ c) : Bd c x := Nat.lt_of_lt_of_le h (Nat.pow_le_pow_right (by decide) l)
theorem bd_mul {a b : Nat} {x y : Int} (h : Bd a x) (k : Bd b y) : Bd (a + b) (x * y) := by
  unfold Bd at *
  rw [Int.natAbs_mul, Nat.pow_add]
  exact Nat.mul_lt_mul'' h k
theorem bd_add {a b : Nat} {x y : Int} (h : Bd a x) (k : Bd b y) : Bd (a + b + 1) (x + y) := by
  unfold Bd at *
  have h1 : 2 ^ a ≤ 2 ^ (a + b) := Nat.pow_le_pow_right (by decide) (by omega)
  have h2 : 2 ^ b ≤ 2 ^ (a + b) := Nat.pow_le_pow_right (by decide) (by omega)
  have h3 := Int.natAbs_add_le x y
  rw [Nat.pow_succ]
  omega
theorem bd_60 {x : Int} (h : 0 ≤ x) (k : x < 2 ^ 60) : Bd 60 x := by
  unfold Bd
  omega
theorem bd_big {a : Nat} {x : Int} (h : Bd a x) (l : a ≤ 4096) : x.natAbs < 2 ^ 4096 := bd_le h l
end EF

set_option Elab.async false
set_option linter.all false
set_option maxRecDepth 100000
/-! EF20: loops and comprehensions, reckoned with. -/
namespace EF
open PySem PySem.Spec PyProof.Rows L2
section
variable {st : Sto} {ρ : Rho} {f : XE}
abbrev noGd : Sto → Prop := fun _ => True
theorem ok_anyI {P : List PyData × (Sto → Prop) → Sto → Prop} : Ok (anyI f ρ st) P ↔ Ok (f ρ st) fun x s => OkO (seqOf x) fun ds => P (ds, noGd) s := by
  unfold anyI
  simp only [ok_bind, ok_ofOpt, ok_pure]
theorem seq_t {ds : List PyData} : seqOf (.tuple ds) = some ds := rfl
theorem seq_l {ds : List PyData} : seqOf (.list ds) = some ds := rfl
theorem ok_rng1 {P : List PyData × (Sto → Prop) → Sto → Prop} : Ok (rng1I (consX f nilX) ρ st) P ↔ Ok (f ρ st) (IsI fun j s => small j = true ∧ P (rngD j.toNat 0, noGd) s) := by
  unfold rng1I
  simp only [ok_bind, ok_consX, ok_nilX]
  constructor
  · rintro ⟨x, s, e, p⟩
    refine ⟨x, s, e, ?_⟩
    cases x with
    | int j =>
      have p' := ok_if.mp p
      by_cases h : small j = true
      · exact ⟨h, (ok_pure (P := P)).mp (p'.1 h)⟩
      · exact (ok_fail.mp (p'.2 h)).elim
    | _ => exact (ok_fail.mp p).elim
  · rintro ⟨x, s, e, p⟩
    refine ⟨x, s, e, ?_⟩
    cases x with
    | int j => exact ok_if.mpr ⟨fun _ => ok_pure.mpr p.2, fun z => absurd p.1 z⟩
    | _ => exact p.elim
theorem small_ok {j : Int} (h : 0 ≤ j) (k : j < 2 ^ 62) : small j = true := decide_eq_true ⟨by omega, k⟩
theorem ok_enum {P : List PyData × (Sto → Prop) → Sto → Prop} : Ok (enumI (consX f nilX) ρ st) P ↔ Ok (f ρ st) fun x s => OkO (seqOf x) fun ds => P (enumD ds, noGd) s := by
  unfold enumI
  simp only [ok_bind, ok_consX, ok_nilX, ok_ofOpt, ok_pure]
def IsZ (P : List PyData × (Sto → Prop) → Sto → Prop) : List PyData → Sto → Prop
  | [.tuple ds, .tuple es], s => P (zipD ds es, noGd) s
  | [.list ds, .list es], s => P (zipD ds es, noGd) s
  | _, _ => False
theorem isZ_t {P : List PyData × (Sto → Prop) → Sto → Prop} {ds es : List PyData} {s : Sto} : IsZ P [.tuple ds, .tuple es] s = P (zipD ds es, noGd) s := rfl
theorem ok_zip2 {r : Rho → M (List PyData)} {P : List PyData × (Sto → Prop) → Sto → Prop} (h : Ok (r ρ st) (IsZ P)) : Ok (zip2I r ρ st) P := by
  obtain ⟨xs, s, e, p⟩ := h
  unfold zip2I
  rw [ok_bind]
  refine ⟨xs, s, e, ?_⟩
  unfold IsZ at p
  split at p
  · exact ok_pure.mpr p
  · exact ok_pure.mpr p
  · exact p.elim
theorem ok_zip3 {r : Rho → M (List PyData)} {P : List PyData × (Sto → Prop) → Sto → Prop} {ds es fs : List PyData} (h : Ok (r ρ st) fun xs s => xs = [.tuple ds, .tuple es, .tuple fs] ∧ ds.length = es.length ∧ ds.length = fs.length ∧ P (zip3D ds es fs, noGd) s) : Ok (zip3I r ρ st) P := by
  obtain ⟨xs, s, e, rfl, h1, h2, p⟩ := h
  unfold zip3I
  rw [ok_bind]
  exact ⟨_, s, e, ok_if.mpr ⟨fun _ => ok_pure.mpr p, fun z => absurd ⟨h1, h2⟩ z⟩⟩
theorem ok_lcF {it : XI} {g : G} {test : XB} {elt : XE} {vs : List Nat} {P : List PyData → Sto → Prop} : Ok (lcF it g test elt vs ρ st) P ↔ Ok (it ρ st) fun p s => p.1.length ≤ sizeLine ∧ Ok (compGo p.2 g test elt (wipeR ρ vs) p.1 s) P := by
  unfold lcF
  rw [ok_bind]
  constructor <;> rintro ⟨b, s, e, p⟩ <;> refine ⟨b, s, e, ?_⟩
  · have p' := ok_if.mp p
    by_cases h : fits b.1 = true
    · exact ⟨of_decide_eq_true h, p'.1 h⟩
    · exact (ok_fail.mp (p'.2 h)).elim
  · exact ok_if.mpr ⟨fun _ => p.2, fun z => absurd (decide_eq_true p.1) z⟩
theorem ok_forS {it : XI} {g : G} {body : XS} {P : Fl → Sto → Prop} : Ok (forS it g body ρ st) P ↔ Ok (it ρ st) fun p s => Ok (forGo p.2 g body p.1 ρ s) P := by
  unfold forS
  rw [ok_bind]
def cgM (gd : Sto → Prop) (g : G) (test : XB) (elt : XE) (ρ ρ1 : Rho) (r : M (List PyData)) : M (List PyData) := do
  let b ← test ρ1
  if b = true then do
    let y ← elt ρ1
    let r ← r
    pure (y :: r)
  else r
theorem cg_eq {g : G} {test : XB} {elt : XE} {d : PyData} {ds : List PyData} : compGo noGd g test elt ρ (d :: ds) st = (match g.put d ρ with | none => none | some ρ1 => cgM noGd g test elt ρ ρ1 (compGo noGd g test elt ρ ds) st) := by
  rw [compGo]
  exact if_pos trivial
theorem cg_cons {g : G} {test : XB} {elt : XE} {d : PyData} {ds : List PyData} {P : List PyData → Sto → Prop} : Ok (compGo noGd g test elt ρ (d :: ds) st) P ↔
    OkO (g.put d ρ) fun ρ1 => Ok (test ρ1 st) fun b s => (b = true → Ok (elt ρ1 s) fun y s2 => Ok (compGo noGd g test elt ρ ds s2) fun ys s3 => P (y :: ys) s3) ∧ (b = false → Ok (compGo noGd g test elt ρ ds s) P) := by
  rw [cg_eq]
  cases g.put d ρ with
  | none => exact ⟨fun ⟨_, _, h, _⟩ => (by cases h), fun ⟨_, h, _⟩ => (by cases h)⟩
  | some ρ1 =>
    rw [oko_some]
    show Ok (cgM noGd g test elt ρ ρ1 (compGo noGd g test elt ρ ds) st) P ↔ _
    unfold cgM
    rw [ok_bind]
    constructor <;> rintro ⟨b, s, e, p⟩ <;> refine ⟨b, s, e, ?_⟩
    · have p' := ok_if.mp p
      refine ⟨fun h => ?_, fun h => p'.2 (by rw [h]; exact Bool.false_ne_true)⟩
      have q := p'.1 h
      simp only [ok_bind, ok_pure] at q
      exact q
    · refine ok_if.mpr ⟨fun h => ?_, fun h => p.2 (by simpa using h)⟩
      simp only [ok_bind, ok_pure]
      exact p.1 h
theorem cg_nil {g : G} {test : XB} {elt : XE} {P : List PyData → Sto → Prop} : Ok (compGo noGd g test elt ρ [] st) P ↔ P [] st := by
  have e : compGo noGd g test elt ρ [] st = some ([], st) := by
    rw [compGo]
    exact if_pos trivial
  rw [e, ok_some]
/-- a comprehension that only looks -/
theorem comp_pure {g : G} {test : XB} {elt : XE} {tb : PyData → Bool} {e : PyData → PyData} {P : List PyData → Sto → Prop} : ∀ {ds : List PyData},
    (∀ d ∈ ds, OkO (g.put d ρ) fun ρ1 => Ok (test ρ1 st) fun b s => b = tb d ∧ s = st ∧ (tb d = true → Ok (elt ρ1 st) fun y s2 => y = e d ∧ s2 = st)) → P ((ds.filter tb).map e) st → Ok (compGo noGd g test elt ρ ds st) P
  | [], _, p => cg_nil.mpr p
  | d :: ds, h, p => by
    rw [cg_cons]
    obtain ⟨ρ1, e0, b, s, e1, hb0, hs0, k⟩ := h d List.mem_cons_self
    rw [hs0] at e1
    refine ⟨ρ1, e0, b, st, e1, fun hb => ?_, fun hb => ?_⟩
    · obtain ⟨y, s2, e2, hy, hs2⟩ := k (hb0 ▸ hb)
      rw [hs2, hy] at e2
      refine ⟨_, _, e2, ?_⟩
      refine comp_pure (fun d m => h d (List.mem_cons_of_mem _ m)) ?_
      rw [List.filter_cons, if_pos (hb0 ▸ hb)] at p
      exact p
    · refine comp_pure (fun d m => h d (List.mem_cons_of_mem _ m)) ?_
      rw [List.filter_cons, if_neg (by rw [← hb0, hb]; exact Bool.false_ne_true)] at p
      exact p
/-- a comprehension without a test that changes the store -/
theorem comp_st {g : G} {elt : XE} (I : Nat → Sto → Prop) (R : Nat → PyData → Prop) : ∀ {ds : List PyData} {k : Nat} {st : Sto},
    (∀ i d s, ds[i]? = some d → I (k + i) s → OkO (g.put d ρ) fun ρ1 => Ok (elt ρ1 s) fun y s2 => R (k + i) y ∧ I (k + i + 1) s2) → I k st →
      Ok (compGo noGd g (fun _ => pure true) elt ρ ds st) fun ys s => ys.length = ds.length ∧ (∀ i y, ys[i]? = some y → R (k + i) y) ∧ I (k + ds.length) s
  | [], k, st, _, h => cg_nil.mpr ⟨rfl, fun i y e => (by simp at e), h⟩
  | d :: ds, k, st, step, h => by
    rw [cg_cons]
    obtain ⟨ρ1, e1, y, s2, e2, r, h2⟩ := step 0 d st rfl h
    refine ⟨ρ1, e1, ok_pure.mpr ⟨fun _ => ⟨y, s2, e2, ?_⟩, fun z => (by cases z)⟩⟩
    have step' : ∀ i d s, ds[i]? = some d → I (k + 1 + i) s → OkO (g.put d ρ) fun ρ1 => Ok (elt ρ1 s) fun y s2 => R (k + 1 + i) y ∧ I (k + 1 + i + 1) s2 := fun i d s e hI => by
      have q : k + 1 + i = k + (i + 1) := by omega
      rw [q] at hI ⊢
      exact step (i + 1) d s e hI
    refine (comp_st I R step' h2).mono fun ys s ⟨a, b, c⟩ => ⟨by simp [a], fun i z ez => ?_, (by rw [List.length_cons, show k + (ds.length + 1) = k + 1 + ds.length from by omega]; exact c)⟩
    cases i with
    | zero => simp at ez; subst ez; exact r
    | succ i =>
      have q : k + (i + 1) = k + 1 + i := by omega
      rw [q]
      exact b i z (by simpa using ez)
/-- what a turn of a loop may come to -/
def Turn (I : Rho → Sto → Prop) (P : Fl → Sto → Prop) : Fl → Sto → Prop
  | .nx ρ, s => I ρ s
  | .ct ρ, s => I ρ s
  | .bk ρ, s => P (.nx ρ) s
  | .rt w, s => P (.rt w) s
theorem turn_nx {I : Rho → Sto → Prop} {P : Fl → Sto → Prop} {s : Sto} : Turn I P (.nx ρ) s = I ρ s := rfl
theorem turn_rt {I : Rho → Sto → Prop} {P : Fl → Sto → Prop} {w : W} {s : Sto} : Turn I P (.rt w) s = P (.rt w) s := rfl
def fgM (body : XS) (r : Rho → M Fl) (ρ1 : Rho) : M Fl := do
  let fl ← body ρ1
  match fl with
  | .nx ρ2 => r ρ2
  | .ct ρ2 => r ρ2
  | .bk ρ2 => pure (.nx ρ2)
  | .rt w => pure (.rt w)
theorem fg_eq {g : G} {body : XS} {d : PyData} {ds : List PyData} : forGo noGd g body (d :: ds) ρ st = (match g.put d ρ with | none => none | some ρ1 => fgM body (forGo noGd g body ds) ρ1 st) := by
  rw [forGo]
  exact if_pos trivial
theorem fg_cons {g : G} {body : XS} {d : PyData} {ds : List PyData} {P : Fl → Sto → Prop} : Ok (forGo noGd g body (d :: ds) ρ st) P ↔ OkO (g.put d ρ) fun ρ1 => Ok (body ρ1 st) (Turn (fun ρ2 s => Ok (forGo noGd g body ds ρ2 s) P) P) := by
  rw [fg_eq]
  cases g.put d ρ with
  | none => exact ⟨fun ⟨_, _, h, _⟩ => (by cases h), fun ⟨_, h, _⟩ => (by cases h)⟩
  | some ρ1 =>
    rw [oko_some]
    show Ok (fgM body (forGo noGd g body ds) ρ1 st) P ↔ _
    unfold fgM
    rw [ok_bind]
    constructor
    · rintro ⟨fl, s, e, p⟩
      refine ⟨fl, s, e, ?_⟩
      cases fl with
      | nx ρ2 => exact p
      | ct ρ2 => exact p
      | bk ρ2 => exact (ok_pure (P := P)).mp p
      | rt w => exact (ok_pure (P := P)).mp p
    · rintro ⟨fl, s, e, p⟩
      refine ⟨fl, s, e, ?_⟩
      cases fl with
      | nx ρ2 => exact p
      | ct ρ2 => exact p
      | bk ρ2 => exact (ok_pure (P := P)).mpr p
      | rt w => exact (ok_pure (P := P)).mpr p
theorem fg_nil {g : G} {body : XS} {P : Fl → Sto → Prop} : Ok (forGo noGd g body [] ρ st) P ↔ P (.nx ρ) st := by
  have e : forGo noGd g body [] ρ st = some (.nx ρ, st) := by
    rw [forGo]
    exact if_pos trivial
  rw [e, ok_some]
/-- a loop, by what holds ahead of the turn i -/
theorem for_st {g : G} {body : XS} {P : Fl → Sto → Prop} (I : Nat → Rho → Sto → Prop) : ∀ {ds : List PyData} {k : Nat} {ρ : Rho} {st : Sto},
    (∀ i d ρ s, ds[i]? = some d → I (k + i) ρ s → OkO (g.put d ρ) fun ρ1 => Ok (body ρ1 s) (Turn (I (k + i + 1)) P)) → (∀ ρ s, I (k + ds.length) ρ s → P (.nx ρ) s) → I k ρ st → Ok (forGo noGd g body ds ρ st) P
  | [], k, ρ, st, _, fin, h => fg_nil.mpr (fin ρ st h)
  | d :: ds, k, ρ, st, step, fin, h => by
    rw [fg_cons]
    obtain ⟨ρ1, e1, fl, s, e2, p⟩ := step 0 d ρ st rfl h
    refine ⟨ρ1, e1, fl, s, e2, ?_⟩
    have go : ∀ ρ2 s, I (k + 1) ρ2 s → Ok (forGo noGd g body ds ρ2 s) P := fun ρ2 s h2 => by
      refine for_st (k := k + 1) I (fun i d ρ s e hI => ?_) (fun ρ s h3 => fin ρ s ?_) h2
      · have q : k + 1 + i = k + (i + 1) := by omega
        rw [q] at hI ⊢
        exact step (i + 1) d ρ s e hI
      · rw [List.length_cons]
        have q : k + (ds.length + 1) = k + 1 + ds.length := by omega
        rw [q]; exact h3
    cases fl with
    | nx ρ2 => exact go ρ2 s p
    | ct ρ2 => exact go ρ2 s p
    | bk ρ2 => exact p
    | rt w => exact p
theorem put_nm {i : Nat} {d : PyData} {P : Rho → Prop} : OkO (G.put (.nm i) d ρ) P ↔ P (ρ.set i (some (.d d))) := oko_some
theorem put_tp2 {i j : Nat} {x y : PyData} {P : Rho → Prop} : OkO (G.put (.tp [i, j]) (.tuple [x, y]) ρ) P ↔ P ((ρ.set i (some (.d x))).set j (some (.d y))) := oko_some
theorem put_tp3 {i j k : Nat} {x y z : PyData} {P : Rho → Prop} : OkO (G.put (.tp [i, j, k]) (.tuple [x, y, z]) ρ) P ↔ P (((ρ.set i (some (.d x))).set j (some (.d y))).set k (some (.d z))) := oko_some
theorem isi_int {v : Int} : isTab (tyName (.int v)) "int" = true := by simp [isTab, tyName]
theorem isi_intb {v : Int} : isTab (tyName (.int v)) "bool" = false := by simp [isTab, tyName]
theorem ok_eq {α : Type} {r : Option (α × Sto)} {x : α} {s : Sto} (h : Ok r fun a t => a = x ∧ t = s) : r = some (x, s) := by
  obtain ⟨a, t, e, rfl, rfl⟩ := h
  exact e
theorem ok_of {α : Type} {r : Option (α × Sto)} {x : α} {s : Sto} {P : α → Sto → Prop} (h : r = some (x, s)) (p : P x s) : Ok r P := ⟨x, s, h, p⟩
theorem ok_callKX {g : Gf} {n m : Nat} {pi : List Nat} {r rk : Rho → M (List W)} {P : PyData → Sto → Prop} : Ok (callKX g n m pi r rk ρ st) P ↔ Ok (r ρ st) fun ws s => Ok (rk ρ s) fun zs s2 => (ws.length = n ∧ zs.length = m ∧ (pi.all fun i => decide (i < n + m)) = true) ∧ Ok (g (pick pi (.d .none) (ws ++ zs)) s2) (IsD P) := by
  unfold callKX
  simp only [ok_bind]
  constructor
  · rintro ⟨ws, s, e, zs, s2, e2, p⟩
    refine ⟨ws, s, e, zs, s2, e2, ?_⟩
    have p' := ok_if.mp p
    by_cases h : ws.length = n ∧ zs.length = m ∧ (pi.all fun i => decide (i < n + m)) = true
    · have q := p'.1 h
      simp only [ok_bind, ok_wD] at q
      exact ⟨h, q⟩
    · exact (ok_fail.mp (p'.2 h)).elim
  · rintro ⟨ws, s, e, zs, s2, e2, h, p⟩
    refine ⟨ws, s, e, zs, s2, e2, ok_if.mpr ⟨fun _ => ?_, fun z => absurd h z⟩⟩
    simp only [ok_bind, ok_wD]
    exact p
theorem o_catt {xs ys : List PyData} {P : PyData → Prop} : OkO (addD (.tuple xs) (.tuple ys)) P ↔ xs.length + ys.length ≤ sizeLine ∧ P (.tuple (xs ++ ys)) := by
  by_cases h : xs.length + ys.length ≤ sizeLine
  · have e : addD (.tuple xs) (.tuple ys) = some (.tuple (xs ++ ys)) := by
      show (((none : Option PyData).or (if xs.length + ys.length ≤ sizeLine then some (PyData.tuple (xs ++ ys)) else none)).or _) = _
      rw [if_pos h]; rfl
    rw [e, oko_some]
    exact ⟨fun p => ⟨h, p⟩, fun p => p.2⟩
  · have e : addD (.tuple xs) (.tuple ys) = none := by
      show (((none : Option PyData).or (if xs.length + ys.length ≤ sizeLine then some (PyData.tuple (xs ++ ys)) else none)).or ((none : Option PyData).or none)) = _
      rw [if_neg h]; rfl
    rw [e, oko_none]
    exact ⟨False.elim, fun p => absurd p.1 h⟩
theorem o_catl {xs ys : List PyData} {P : PyData → Prop} : OkO (addD (.list xs) (.list ys)) P ↔ xs.length + ys.length ≤ sizeLine ∧ P (.list (xs ++ ys)) := by
  by_cases h : xs.length + ys.length ≤ sizeLine
  · have e : addD (.list xs) (.list ys) = some (.list (xs ++ ys)) := by
      show (((none : Option PyData).or none).or ((if xs.length + ys.length ≤ sizeLine then some (PyData.list (xs ++ ys)) else none).or none)) = _
      rw [if_pos h]; rfl
    rw [e, oko_some]
    exact ⟨fun p => ⟨h, p⟩, fun p => p.2⟩
  · have e : addD (.list xs) (.list ys) = none := by
      show (((none : Option PyData).or none).or ((if xs.length + ys.length ≤ sizeLine then some (PyData.list (xs ++ ys)) else none).or none)) = _
      rw [if_neg h]; rfl
    rw [e, oko_none]
    exact ⟨False.elim, fun p => absurd p.1 h⟩
theorem o_slit {ds : List PyData} {lo hi : Option Int} {P : PyData → Prop} : OkO (sliD (.tuple ds) lo hi) P ↔ P (.tuple (cutD ds lo hi)) := oko_some
theorem o_slil {ds : List PyData} {lo hi : Option Int} {P : PyData → Prop} : OkO (sliD (.list ds) lo hi) P ↔ P (.list (cutD ds lo hi)) := oko_some
end
end EF

set_option Elab.async false
set_option linter.all false
set_option maxRecDepth 100000
/-! EF21: facts of data: comparisons, texts. -/
namespace EF
open PySem PySem.Spec PyProof.Rows L2
section
variable {P : PyData → Prop} {i j : Int}
theorem cmp_i : cmpOk (.int i) = true := by simp [cmpOk, nod, SeqAt.shaped, PyData.canLay0, PyData.depth]
theorem cmp_n : cmpOk .none = true := by simp [cmpOk, nod, SeqAt.shaped, PyData.canLay0, PyData.depth]
theorem cmp_b {b : Bool} : cmpOk (.bool b) = true := by simp [cmpOk, nod, SeqAt.shaped, PyData.canLay0, PyData.depth]
theorem cmp_s {x : Str} (h : PyData.strOk x = true) : cmpOk (.str x) = true := by simp [cmpOk, nod, SeqAt.shaped, PyData.canLay0, PyData.depth, h]
/-- flat data -/
def flat : PyData → Bool
  | .none => true
  | .bool _ => true
  | .int _ => true
  | _ => false
theorem flat_all : ∀ {ds : List PyData}, (∀ d ∈ ds, flat d = true) → nods ds = true ∧ PyData.canLayAll0 ds = true ∧ PyData.depthAll ds = 0
  | [], _ => by simp [nods, PyData.canLayAll0, PyData.depthAll]
  | d :: ds, h => by
    obtain ⟨h1, h2, h3⟩ := flat_all (ds := ds) fun x m => h x (List.mem_cons_of_mem _ m)
    have hd := h d List.mem_cons_self
    cases d <;> simp [flat] at hd <;> simp [nods, nod, PyData.canLayAll0, PyData.canLay0, PyData.depthAll, PyData.depth, h1, h2, h3]
theorem flat_ints {xs : List Int} : ∀ d ∈ xs.map PyData.int, flat d = true := by
  intro d hd
  obtain ⟨x, _, rfl⟩ := List.mem_map.mp hd
  rfl
theorem cmp_l {ds : List PyData} (h : ∀ d ∈ ds, flat d = true) : cmpOk (.list ds) = true := by
  obtain ⟨h1, h2, h3⟩ := flat_all h
  simp [cmpOk, nod, SeqAt.shaped, PyData.canLay0, PyData.depth, h1, h2, h3]
theorem cmp_t {ds : List PyData} (h : ∀ d ∈ ds, flat d = true) : cmpOk (.tuple ds) = true := by
  obtain ⟨h1, h2, h3⟩ := flat_all h
  simp [cmpOk, nod, SeqAt.shaped, PyData.canLay0, PyData.depth, h1, h2, h3]
theorem o_isnn : OkO (isD .none .none) P ↔ P (.bool true) := oko_some
theorem o_isin : OkO (isD (.int i) .none) P ↔ P (.bool false) := oko_some
theorem o_isntnn : OkO (isntD .none .none) P ↔ P (.bool false) := oko_some
theorem o_isntin : OkO (isntD (.int i) .none) P ↔ P (.bool true) := oko_some
theorem at_nat {α : Type} {xs : List α} {n : Nat} {x : α} (h : xs[n]? = some x) : atI xs (n : Int) = some x := by
  have hn : n < xs.length := (List.getElem?_eq_some_iff.mp h).1
  unfold atI ixN
  rw [if_pos (Int.natCast_nonneg n), if_pos (by omega)]
  simpa using h
theorem o_ixt {ds : List PyData} {n : Nat} {x : PyData} (h : ds[n]? = some x) : OkO (ixD (.tuple ds) (.int (n : Int))) P ↔ P x := by
  show OkO (atI ds (n : Int)) P ↔ P x
  rw [at_nat h, oko_some]
theorem o_eqnil {ds : List PyData} (h : ∀ d ∈ ds, flat d = true) : OkO (eqD (.list ds) (.list [])) P ↔ P (.bool ds.isEmpty) := by
  unfold eqD
  rw [cmp_l h, cmp_l (ds := []) (by simp)]
  have e : PyData.eqv (.list ds) (.list []) = ds.isEmpty := by
    cases ds <;> simp [PyData.eqv, PyData.eqvAll]
  rw [e]
  exact oko_some
theorem o_nes {x : Str} (h : PyData.strOk x = true) : OkO (neD (.str x) (.str x)) P ↔ P (.bool false) := by
  unfold neD
  rw [cmp_s h]
  have e : PyData.eqv (.str x) (.str x) = true := by simp [PyData.eqv]
  rw [e]
  exact oko_some
theorem o_nin {xs : List Int} : OkO (inD true .none (.tuple (xs.map .int))) P ↔ P (.bool true) := by
  unfold inD
  rw [seq_t]
  show OkO (if (cmpOk .none && cmpOk (.list (xs.map .int))) = true then some (PyData.bool (if true = true then !(xs.map PyData.int).any fun z => PyData.eqv z .none else (xs.map PyData.int).any fun z => PyData.eqv z .none)) else none) P ↔ _
  rw [cmp_n, cmp_l flat_ints]
  have e : ((xs.map PyData.int).any fun z => PyData.eqv z .none) = false := by
    rw [List.any_eq_false]
    intro d hd
    obtain ⟨x, _, rfl⟩ := List.mem_map.mp hd
    simp [PyData.eqv]
  rw [e]
  exact oko_some
/-! ### texts -/
theorem strOk_append {x y : Str} (h : PyData.strOk x = true) (k : PyData.strOk y = true) : PyData.strOk (x ++ y) = true := by
  unfold PyData.strOk at *
  show (x.cps ++ y.cps).all _ = true
  rw [Array.all_append, h, k]; rfl
theorem strOk_of (s : String) : PyData.strOk (Str.ofString s) = true := by
  unfold PyData.strOk Str.ofString
  rw [cpsOfBytes_string]
  simp only [List.all_toArray, List.all_map, List.all_eq_true, Function.comp_apply, decide_eq_true_eq]
  intro c _
  have h := c.valid
  have e : c.toNat = c.val.toNat := rfl
  rw [e]
  simp only [UInt32.isValidChar, Nat.isValidChar] at h
  omega
theorem strOk_join {sep : Str} (hs : PyData.strOk sep = true) : ∀ {ts : List Str}, (∀ t ∈ ts, PyData.strOk t = true) → PyData.strOk (Str.join sep ts) = true
  | [], _ => by show PyData.strOk Str.empty = true; decide +kernel
  | [x], h => h x List.mem_cons_self
  | x :: y :: r, h => by
    show PyData.strOk (x ++ sep ++ Str.join sep (y :: r)) = true
    exact strOk_append (strOk_append (h x List.mem_cons_self) hs) (strOk_join hs fun t m => h t (List.mem_cons_of_mem _ m))
theorem strOk_tup {ts : List Str} (h : ∀ t ∈ ts, PyData.strOk t = true) : PyData.strOk (tupleText ts) = true := by
  unfold tupleText
  exact strOk_append (strOk_append (strOk_of _) (strOk_join (strOk_of _) h)) (strOk_of _)
theorem len_tup {ts : List Str} : (tupleText ts).length ≤ piled ts + 3 := by
  unfold tupleText
  have e2 : ((if ts.length == 1 then ",)" else ")" : String) : Str).length ≤ 2 := by
    split <;> decide
  have e1 : (("(" : String) : Str).length = 1 := rfl
  rw [strLen_append, strLen_append, e1]
  cases ts with
  | nil =>
    have : (Str.join ", " ([] : List Str)).length = 0 := rfl
    omega
  | cons t ts =>
    have := join_length_add (t :: ts) (by simp)
    omega
theorem shownAll_map : ∀ {ds : List PyData}, PyData.shownAll ds = ds.map PyData.shown
  | [] => rfl
  | d :: ds => by rw [PyData.shownAll, shownAll_map]; rfl
theorem showAll_all : ∀ {ds : List PyData}, (∀ d ∈ ds, d.showable = true) → PyData.showableAll ds = true
  | [], _ => rfl
  | d :: ds, h => by rw [PyData.showableAll, h d List.mem_cons_self, showAll_all fun x m => h x (List.mem_cons_of_mem _ m)]; rfl
/-- small ints and None -/
def lil (d : PyData) : Prop := flat d = true ∧ d.showable = true ∧ PyData.strOk d.shown = true ∧ d.shown.length ≤ 100
theorem lil_n : lil .none := ⟨rfl, rfl, strOk_of _, by decide⟩
theorem lil_b {b : Bool} : lil (.bool b) := by
  refine ⟨rfl, rfl, ?_, ?_⟩ <;> cases b <;> simp only [PyData.shown] <;> decide +kernel
theorem lil_i (h : 0 ≤ i) (k : i < 10) : lil (.int i) := by
  have : i = 0 ∨ i = 1 ∨ i = 2 ∨ i = 3 ∨ i = 4 ∨ i = 5 ∨ i = 6 ∨ i = 7 ∨ i = 8 ∨ i = 9 := by omega
  rcases this with rfl | rfl | rfl | rfl | rfl | rfl | rfl | rfl | rfl | rfl <;> refine ⟨rfl, ?_, ?_, ?_⟩ <;> simp only [PyData.shown, PyData.showable] <;> decide +kernel
theorem piled_le : ∀ {ds : List PyData}, (∀ d ∈ ds, lil d) → piled (ds.map PyData.shown) ≤ 102 * ds.length
  | [], _ => Nat.zero_le _
  | d :: ds, h => by
    have h1 := piled_le (ds := ds) fun x m => h x (List.mem_cons_of_mem _ m)
    have h2 := (h d List.mem_cons_self).2.2.2
    rw [List.map_cons, piled_cons, List.length_cons]
    omega
theorem line_big : 100000 ≤ sizeLine := by decide
theorem repr_t {ds : List PyData} (h : ∀ d ∈ ds, lil d) (l : ds.length ≤ 100) : reprOk (.tuple ds) = true ∧ PyData.strOk (PyData.shown (.tuple ds)) = true := by
  obtain ⟨h1, h2, h3⟩ := flat_all fun d m => (h d m).1
  have hs : PyData.shown (.tuple ds) = tupleText (ds.map PyData.shown) := by rw [PyData.shown, shownAll_map]
  have hl : (PyData.shown (.tuple ds)).length ≤ sizeLine := by
    rw [hs]
    have a := len_tup (ts := ds.map PyData.shown)
    have b := piled_le h
    have c := line_big
    omega
  constructor
  · simp [reprOk, nod, SeqAt.shaped, PyData.canLay0, PyData.depth, PyData.showable, h1, h2, h3, showAll_all fun d m => (h d m).2.1, hl]
  · rw [hs]
    refine strOk_tup fun t m => ?_
    obtain ⟨d, hd, rfl⟩ := List.mem_map.mp m
    exact (h d hd).2.2.1
theorem o_reprt {ds : List PyData} (h : ∀ d ∈ ds, lil d) (l : ds.length ≤ 100) : OkO (reprD (.tuple ds)) P ↔ P (.str (PyData.shown (.tuple ds))) := by
  unfold reprD
  rw [if_pos (repr_t h l).1, oko_some]
theorem o_reprb {b : Bool} : OkO (reprD (.bool b)) P ↔ P (.str (PyData.shown (.bool b))) := by
  have e : reprOk (.bool b) = true := by
    have := (lil_b (b := b)).2.2.2
    have c := line_big
    simp [reprOk, nod, SeqAt.shaped, PyData.canLay0, PyData.depth, PyData.showable]
    omega
  unfold reprD
  rw [if_pos e, oko_some]
end
end EF

set_option Elab.async false
set_option linter.all false
set_option maxRecDepth 100000
set_option maxHeartbeats 4000000
namespace K06
open PySem PySem.Spec PyProof.Rows L2 EF
/-! ### the text -/
def top (i : Nat) : Stmt := PySem.Challenge.pw_eitherfields_k06_agreeing_and_mixing.main.body.getD i (.Pass ⟨0, 0, 0, 0⟩)
def cn : List (Str × Int) := [("MOST_FIELDS", 8), ("MOST_VALUES", 5)]
abbrev s_between : Stmt := top 8
def N_between : List Str := ["value", "low", "high"]
def p_between : List Str := ["value", "low", "high"]
noncomputable def b_between : Ss := (.cons (.sm (.ret (.and (.isi "int" (.v 0)) (.and (.not (.isi "bool" (.v 0))) (.one (.chn .le .le (.v 1) (.v 0) (.v 2))))))) .nil)
noncomputable def g_between : Gf := fnM 3 b_between.ev
abbrev s_sheet_fits : Stmt := top 9
def N_sheet_fits : List Str := ["value", "many"]
def p_sheet_fits : List Str := ["value"]
noncomputable def b_sheet_fits : Ss := (.cons (.ifs (.or (.e (.ty true "tuple" (.v 0))) (.one (.not (.e (.call "between" g_between (.dat (.f1 .len (.v 0)) (.dat (.k (.int 1)) (.dat (.g 8) .nil)))))))) (.cons (.sm (.ret (.k (.bool false)))) .nil) .nil) (.cons (.sm (.ret (.f1 .all (.comp (.e (.v 0)) (.nm 1) .yes (.call "between" g_between (.dat (.v 1) (.dat (.k (.int 1)) (.dat (.g 5) .nil)))) [("many", 1)])))) .nil))
noncomputable def g_sheet_fits : Gf := fnM 2 b_sheet_fits.ev
abbrev s_entry_fits : Stmt := top 10
def N_entry_fits : List Str := ["sheet", "field", "value"]
def p_entry_fits : List Str := ["sheet", "field", "value"]
noncomputable def b_entry_fits : Ss := (.cons (.sm (.ret (.call "between" g_between (.dat (.v 2) (.dat (.k (.int 0)) (.dat (.bin .sub (.ix (.v 0) (.v 1)) (.k (.int 1))) .nil)))))) .nil)
noncomputable def g_entry_fits : Gf := fnM 3 b_entry_fits.ev
abbrev s_part_fits : Stmt := top 11
def N_part_fits : List Str := ["sheet", "value", "field", "entry"]
def p_part_fits : List Str := ["sheet", "value"]
noncomputable def b_part_fits : Ss := (.cons (.ifs (.or (.e (.ty true "tuple" (.v 1))) (.one (.e (.cmp .ne (.f1 .len (.v 1)) (.f1 .len (.v 0)))))) (.cons (.sm (.ret (.k (.bool false)))) .nil) .nil) (.cons (.sm (.ret (.f1 .all (.comp (.enum (.v 1)) (.tp [2, 3]) .yes (.or (.cmp .is (.v 3) (.k .none)) (.one (.call "entry_fits" g_entry_fits (.dat (.v 0) (.dat (.v 2) (.dat (.v 3) .nil)))))) [("field", 2), ("entry", 3)])))) .nil))
noncomputable def g_part_fits : Gf := fnM 4 b_part_fits.ev
abbrev s_filling_fits : Stmt := top 12
def N_filling_fits : List Str := ["sheet", "value"]
def p_filling_fits : List Str := ["sheet", "value"]
noncomputable def b_filling_fits : Ss := (.cons (.sm (.ret (.and (.call "part_fits" g_part_fits (.dat (.v 0) (.dat (.v 1) .nil))) (.one (.cmp .notin (.k .none) (.v 1)))))) .nil)
noncomputable def g_filling_fits : Gf := fnM 2 b_filling_fits.ev
abbrev s_need_sheet : Stmt := top 13
def N_need_sheet : List Str := ["sheet"]
def p_need_sheet : List Str := ["sheet"]
noncomputable def b_need_sheet : Ss := (.cons (.ifs (.not (.e (.call "sheet_fits" g_sheet_fits (.dat (.v 0) .nil)))) (.cons (.sm .never) .nil) .nil) .nil)
noncomputable def g_need_sheet : Gf := fnM 1 b_need_sheet.ev
abbrev s_need_part : Stmt := top 14
def N_need_part : List Str := ["sheet", "part"]
def p_need_part : List Str := ["sheet", "part"]
noncomputable def b_need_part : Ss := (.cons (.ifs (.not (.e (.call "part_fits" g_part_fits (.dat (.v 0) (.dat (.v 1) .nil))))) (.cons (.sm .never) .nil) .nil) .nil)
noncomputable def g_need_part : Gf := fnM 2 b_need_part.ev
abbrev s_need_filling : Stmt := top 15
def N_need_filling : List Str := ["sheet", "filling"]
def p_need_filling : List Str := ["sheet", "filling"]
noncomputable def b_need_filling : Ss := (.cons (.ifs (.not (.e (.call "filling_fits" g_filling_fits (.dat (.v 0) (.dat (.v 1) .nil))))) (.cons (.sm .never) .nil) .nil) .nil)
noncomputable def g_need_filling : Gf := fnM 2 b_need_filling.ev
abbrev s_agrees : Stmt := top 17
def N_agrees : List Str := ["sheet", "filling", "part", "value", "told"]
def p_agrees : List Str := ["sheet", "filling", "part"]
noncomputable def b_agrees : Ss := (.cons (.sm (.drop (.call "need_sheet" g_need_sheet (.dat (.v 0) .nil)))) (.cons (.sm (.drop (.call "need_filling" g_need_filling (.dat (.v 0) (.dat (.v 1) .nil))))) (.cons (.sm (.drop (.call "need_part" g_need_part (.dat (.v 0) (.dat (.v 2) .nil))))) (.cons (.sm (.ret (.f1 .all (.comp (.zip2 (.v 1) (.v 2)) (.tp [3, 4]) .yes (.or (.cmp .is (.v 4) (.k .none)) (.one (.cmp .eq (.v 4) (.v 3)))) [("value", 3), ("told", 4)])))) .nil))))
noncomputable def g_agrees : Gf := fnM 5 b_agrees.ev
abbrev s_mixed : Stmt := top 18
def N_mixed : List Str := ["sheet", "first", "second", "third", "one", "other", "last"]
def p_mixed : List Str := ["sheet", "first", "second", "third"]
noncomputable def b_mixed : Ss := (.cons (.sm (.drop (.call "need_sheet" g_need_sheet (.dat (.v 0) .nil)))) (.cons (.sm (.drop (.call "need_filling" g_need_filling (.dat (.v 0) (.dat (.v 1) .nil))))) (.cons (.sm (.drop (.call "need_filling" g_need_filling (.dat (.v 0) (.dat (.v 2) .nil))))) (.cons (.sm (.drop (.call "need_filling" g_need_filling (.dat (.v 0) (.dat (.v 3) .nil))))) (.cons (.sm (.ret (.f1 .tuple (.comp (.zip3 (.v 1) (.v 2) (.v 3)) (.tp [4, 5, 6]) .yes (.ite (.e (.cmp .eq (.v 4) (.v 5))) (.v 4) (.v 6)) [("one", 4), ("other", 5), ("last", 6)])))) .nil)))))
noncomputable def g_mixed : Gf := fnM 7 b_mixed.ev
abbrev s_law_pouch : Stmt := top 20
def N_law_pouch : List Str := ["cell", "rest"]
def p_law_pouch : List Str := ["cell"]
noncomputable def b_law_pouch : Ss := (.cons (.sm (.set1 1 (.k (.int 0)))) (.cons (.ifs (.e (.cmp .gt (.v 0) (.bin .pow (.k (.int 10)) (.k (.int 18))))) (.cons (.sm (.set1 1 (.bin .sub (.v 0) (.bin .pow (.k (.int 10)) (.k (.int 18)))))) .nil) .nil) (.cons (.sm (.retc (.lst (.cons (.v 1) (.cons (.bin .mod (.f1 .int (.v 0)) (.k (.int 999999999999999989))) (.cons (.k (.int 0)) .nil)))))) .nil)))
noncomputable def g_law_pouch : Gf := fnM 2 b_law_pouch.ev
abbrev s_law_take : Stmt := top 21
def N_law_take : List Str := ["bag", "many", "stir", "digit", "base", "turn"]
def p_law_take : List Str := ["bag", "many"]
noncomputable def b_law_take : Ss := (.cons (.ifs (.e (.cmp .gt (.cix 0 (.k (.int 0))) (.k (.int 0)))) (.cons (.sm (.set1 3 (.bin .mod (.f1 .int (.cix 0 (.k (.int 0)))) (.v 1)))) (.cons (.sm (.put 0 (.k (.int 0)) (.bin .fdiv (.cix 0 (.k (.int 0))) (.v 1)))) (.cons (.sm (.ret (.v 3))) .nil))) .nil) (.cons (.sm (.put 0 (.k (.int 2)) (.bin .add (.cix 0 (.k (.int 2))) (.k (.int 1))))) (.cons (.sm (.par 4 5 (.cix 0 (.k (.int 1))) (.cix 0 (.k (.int 2))))) (.cons (.sm (.set1 2 (.bin .mod (.f1 .int (.bin .mul (.bin .add (.v 4) (.bin .mul (.k (.int 5)) (.v 5))) (.bin .add (.bin .add (.v 4) (.bin .mul (.bin .mul (.k (.int 10007)) (.v 5)) (.v 5))) (.k (.int 71))))) (.k (.int 9999999999999937))))) (.cons (.sm (.set1 2 (.bin .mod (.f1 .int (.bin .add (.bin .add (.bin .mul (.bin .mul (.v 2) (.v 2)) (.v 2)) (.bin .mul (.k (.int 40961)) (.v 2))) (.bin .mul (.k (.int 977)) (.v 5)))) (.k (.int 999999999989))))) (.cons (.sm (.ret (.bin .mod (.bin .fdiv (.v 2) (.k (.int 4096))) (.v 1)))) .nil))))))
noncomputable def g_law_take : Gf := fnM 6 b_law_take.ev
abbrev s_law_draw_sizes : Stmt := top 22
def N_law_draw_sizes : List Str := ["bag", "most_spots", "far", "way", "many", "k"]
def p_law_draw_sizes : List Str := ["bag", "most_spots", "far"]
noncomputable def b_law_draw_sizes : Ss := (.cons (.sm (.set1 3 (.call "_law_take" g_law_take (.cel 0 (.dat (.k (.int 4)) .nil))))) (.cons (.ifs (.e (.cmp .eq (.v 3) (.k (.int 0)))) (.cons (.sm (.ret (.bin .mul (.tup (.cons (.v 2) .nil)) (.v 1)))) .nil) .nil) (.cons (.sm (.set1 4 (.ite (.e (.cmp .eq (.v 3) (.k (.int 1)))) (.v 1) (.bin .add (.k (.int 1)) (.call "_law_take" g_law_take (.cel 0 (.dat (.v 1) .nil))))))) (.cons (.ifs (.e (.cmp .eq (.v 3) (.k (.int 2)))) (.cons (.sm (.ret (.bin .mul (.tup (.cons (.bin .add (.k (.int 1)) (.call "_law_take" g_law_take (.cel 0 (.dat (.v 2) .nil)))) .nil)) (.v 4)))) .nil) .nil) (.cons (.sm (.ret (.f1 .tuple (.comp (.rng1 (.v 4)) (.nm 5) .yes (.bin .add (.k (.int 1)) (.call "_law_take" g_law_take (.cel 0 (.dat (.v 2) .nil)))) [("k", 5)])))) .nil)))))
noncomputable def g_law_draw_sizes : Gf := fnM 6 b_law_draw_sizes.ev
abbrev s_law_draw_row : Stmt := top 23
def N_law_draw_row : List Str := ["bag", "sizes", "size"]
def p_law_draw_row : List Str := ["bag", "sizes"]
noncomputable def b_law_draw_row : Ss := (.cons (.sm (.ret (.f1 .tuple (.comp (.e (.v 1)) (.nm 2) .yes (.call "_law_take" g_law_take (.cel 0 (.dat (.v 2) .nil))) [("size", 2)])))) .nil)
noncomputable def g_law_draw_row : Gf := fnM 3 b_law_draw_row.ev
abbrev s_law_draw_partial : Stmt := top 24
def N_law_draw_partial : List Str := ["bag", "sizes", "way", "found", "size"]
def p_law_draw_partial : List Str := ["bag", "sizes"]
noncomputable def b_law_draw_partial : Ss := (.cons (.sm (.set1 2 (.call "_law_take" g_law_take (.cel 0 (.dat (.k (.int 4)) .nil))))) (.cons (.sm (.new 3 (.lst .nil))) (.cons (.for_ (.e (.v 1)) (.nm 4) (.cons (.ifs (.or (.e (.cmp .eq (.v 2) (.k (.int 0)))) (.one (.e (.cmp .lt (.call "_law_take" g_law_take (.cel 0 (.dat (.k (.int 4)) .nil))) (.bin .sub (.v 2) (.k (.int 1))))))) (.cons (.sm (.app 3 (.k .none))) .nil) (.cons (.sm (.app 3 (.call "_law_take" g_law_take (.cel 0 (.dat (.v 4) .nil))))) .nil)) .nil)) (.cons (.sm (.ret (.f1 .tuple (.cv 3)))) .nil))))
noncomputable def g_law_draw_partial : Gf := fnM 5 b_law_draw_partial.ev
abbrev s_law_near : Stmt := top 25
def N_law_near : List Str := ["bag", "sizes", "row", "rate", "found", "k"]
def p_law_near : List Str := ["bag", "sizes", "row"]
noncomputable def b_law_near : Ss := (.cons (.sm (.set1 3 (.bin .add (.k (.int 1)) (.call "_law_take" g_law_take (.cel 0 (.dat (.k (.int 3)) .nil)))))) (.cons (.sm (.new 4 (.lst .nil))) (.cons (.for_ (.rng1 (.f1 .len (.v 1))) (.nm 5) (.cons (.ifs (.e (.cmp .lt (.call "_law_take" g_law_take (.cel 0 (.dat (.k (.int 4)) .nil))) (.v 3))) (.cons (.sm (.app 4 (.call "_law_take" g_law_take (.cel 0 (.dat (.ix (.v 1) (.v 5)) .nil))))) .nil) (.cons (.sm (.app 4 (.ix (.v 2) (.v 5)))) .nil)) .nil)) (.cons (.sm (.ret (.f1 .tuple (.cv 4)))) .nil))))
noncomputable def g_law_near : Gf := fnM 6 b_law_near.ev
abbrev s_law : Stmt := top 26
def N_law : List Str := ["script", "cell", "bag", "sizes", "a", "mask", "holey", "at", "bent", "some", "b", "c", "row", "x", "y", "z", "due", "k"]
def p_law : List Str := ["script"]
noncomputable def b_law : Ss := (.cons (.for_ (.e (.bin .add (.lst (.cons (.bin .add (.bin .mul (.k (.int 9)) (.bin .pow (.k (.int 10)) (.k (.int 61)))) (.k (.int 577215))) .nil)) (.csli 0 .none (.some (.k (.int 20)))))) (.nm 1) (.cons (.sm (.setc 2 "_law_pouch" g_law_pouch (.dat (.v 1) .nil))) (.cons (.sm (.set1 3 (.call "_law_draw_sizes" g_law_draw_sizes (.cel 2 (.dat (.k (.int 8)) (.dat (.k (.int 5)) .nil)))))) (.cons (.sm (.set1 4 (.call "_law_draw_row" g_law_draw_row (.cel 2 (.dat (.v 3) .nil))))) (.cons (.sm (.par 10 11 (.call "_law_near" g_law_near (.cel 2 (.dat (.v 3) (.dat (.v 4) .nil)))) (.call "_law_near" g_law_near (.cel 2 (.dat (.v 3) (.dat (.v 4) .nil)))))) (.cons (.sm (.set1 5 (.call "_law_draw_partial" g_law_draw_partial (.cel 2 (.dat (.v 3) .nil))))) (.cons (.sm (.set1 6 (.f1 .tuple (.comp (.rng1 (.f1 .len (.v 3))) (.nm 17) .yes (.ite (.e (.cmp .is (.ix (.v 5) (.v 17)) (.k .none))) (.k .none) (.ix (.v 4) (.v 17))) [("k", 17)])))) (.cons (.sm (.set1 7 (.call "_law_take" g_law_take (.cel 2 (.dat (.f1 .len (.v 3)) .nil))))) (.cons (.sm (.set1 8 (.bin .add (.bin .add (.sli (.v 6) .none (.some (.v 7))) (.tup (.cons (.call "_law_take" g_law_take (.cel 2 (.dat (.ix (.v 3) (.v 7)) .nil))) .nil))) (.sli (.v 6) (.some (.bin .add (.v 7) (.k (.int 1)))) .none)))) (.cons (.for_ (.e (.lst (.cons (.v 6) (.cons (.v 8) (.cons (.v 5) .nil))))) (.nm 9) (.cons (.for_ (.e (.lst (.cons (.v 4) (.cons (.v 10) .nil)))) (.nm 12) (.cons (.sm (.set1 16 (.cmp .eq (.comp (.rng1 (.f1 .len (.v 3))) (.nm 17) (.and (.e (.cmp .isnt (.ix (.v 9) (.v 17)) (.k .none))) (.one (.e (.cmp .ne (.ix (.v 9) (.v 17)) (.ix (.v 12) (.v 17)))))) (.v 17) [("k", 17)]) (.lst .nil)))) (.cons (.ifs (.e (.cmp .ne (.f1 .repr (.call "agrees" g_agrees (.dat (.v 3) (.dat (.v 12) (.dat (.v 9) .nil))))) (.f1 .repr (.v 16)))) (.cons (.sm (.ret (.k (.bool false)))) .nil) .nil) (.cons (.ifs (.e (.cmp .ne (.f1 .repr (.callk "agrees" g_agrees 0 ["part", "sheet", "filling"] [1, 2, 0] .nil (.dat (.v 9) (.dat (.v 3) (.dat (.v 12) .nil))))) (.f1 .repr (.v 16)))) (.cons (.sm (.ret (.k (.bool false)))) .nil) .nil) .nil)))) .nil)) (.cons (.for_ (.e (.lst (.cons (.tup (.cons (.v 4) (.cons (.v 10) (.cons (.v 11) .nil)))) (.cons (.tup (.cons (.v 10) (.cons (.v 11) (.cons (.v 4) .nil)))) (.cons (.tup (.cons (.v 11) (.cons (.v 4) (.cons (.v 10) .nil)))) (.cons (.tup (.cons (.v 4) (.cons (.v 4) (.cons (.v 10) .nil)))) (.cons (.tup (.cons (.v 4) (.cons (.v 10) (.cons (.v 4) .nil)))) (.cons (.tup (.cons (.v 10) (.cons (.v 4) (.cons (.v 4) .nil)))) .nil)))))))) (.tp [13, 14, 15]) (.cons (.sm (.new 16 (.lst .nil))) (.cons (.for_ (.rng1 (.f1 .len (.v 3))) (.nm 17) (.cons (.sm (.app 16 (.ite (.e (.cmp .eq (.ix (.v 13) (.v 17)) (.ix (.v 14) (.v 17)))) (.ix (.v 13) (.v 17)) (.ix (.v 15) (.v 17))))) .nil)) (.cons (.ifs (.e (.cmp .ne (.f1 .repr (.callk "mixed" g_mixed 1 ["first", "second", "third"] [0, 1, 2, 3] (.dat (.v 3) .nil) (.dat (.v 13) (.dat (.v 14) (.dat (.v 15) .nil))))) (.f1 .repr (.f1 .tuple (.cv 16))))) (.cons (.sm (.ret (.k (.bool false)))) .nil) .nil) (.cons (.ifs (.e (.cmp .ne (.f1 .repr (.callk "mixed" g_mixed 0 ["third", "first", "sheet", "second"] [2, 1, 3, 0] .nil (.dat (.v 15) (.dat (.v 13) (.dat (.v 3) (.dat (.v 14) .nil)))))) (.f1 .repr (.f1 .tuple (.cv 16))))) (.cons (.sm (.ret (.k (.bool false)))) .nil) .nil) .nil))))) .nil))))))))))) (.cons (.sm (.ret (.k (.bool true)))) .nil))
noncomputable def g_law : Gf := fnM 18 b_law.ev
/-! ### the terms are the text -/
theorem sc_between : FnScope N_between p_between (defScope s_between) := ⟨rfl, rfl, rfl, by decide +kernel, rfl, by decide +kernel, by decide +kernel⟩
theorem ck_between : b_between.ck N_between cn (fun _ => true) (defScope s_between) (defBody s_between) = true := by decide +kernel
theorem sc_sheet_fits : FnScope N_sheet_fits p_sheet_fits (defScope s_sheet_fits) := ⟨rfl, rfl, rfl, by decide +kernel, rfl, by decide +kernel, by decide +kernel⟩
theorem ck_sheet_fits : b_sheet_fits.ck N_sheet_fits cn (fun _ => true) (defScope s_sheet_fits) (defBody s_sheet_fits) = true := by decide +kernel
theorem sc_entry_fits : FnScope N_entry_fits p_entry_fits (defScope s_entry_fits) := ⟨rfl, rfl, rfl, by decide +kernel, rfl, by decide +kernel, by decide +kernel⟩
theorem ck_entry_fits : b_entry_fits.ck N_entry_fits cn (fun _ => true) (defScope s_entry_fits) (defBody s_entry_fits) = true := by decide +kernel
theorem sc_part_fits : FnScope N_part_fits p_part_fits (defScope s_part_fits) := ⟨rfl, rfl, rfl, by decide +kernel, rfl, by decide +kernel, by decide +kernel⟩
theorem ck_part_fits : b_part_fits.ck N_part_fits cn (fun _ => true) (defScope s_part_fits) (defBody s_part_fits) = true := by decide +kernel
theorem sc_filling_fits : FnScope N_filling_fits p_filling_fits (defScope s_filling_fits) := ⟨rfl, rfl, rfl, by decide +kernel, rfl, by decide +kernel, by decide +kernel⟩
theorem ck_filling_fits : b_filling_fits.ck N_filling_fits cn (fun _ => true) (defScope s_filling_fits) (defBody s_filling_fits) = true := by decide +kernel
theorem sc_need_sheet : FnScope N_need_sheet p_need_sheet (defScope s_need_sheet) := ⟨rfl, rfl, rfl, by decide +kernel, rfl, by decide +kernel, by decide +kernel⟩
theorem ck_need_sheet : b_need_sheet.ck N_need_sheet cn (fun _ => true) (defScope s_need_sheet) (defBody s_need_sheet) = true := by decide +kernel
theorem sc_need_part : FnScope N_need_part p_need_part (defScope s_need_part) := ⟨rfl, rfl, rfl, by decide +kernel, rfl, by decide +kernel, by decide +kernel⟩
theorem ck_need_part : b_need_part.ck N_need_part cn (fun _ => true) (defScope s_need_part) (defBody s_need_part) = true := by decide +kernel
theorem sc_need_filling : FnScope N_need_filling p_need_filling (defScope s_need_filling) := ⟨rfl, rfl, rfl, by decide +kernel, rfl, by decide +kernel, by decide +kernel⟩
theorem ck_need_filling : b_need_filling.ck N_need_filling cn (fun _ => true) (defScope s_need_filling) (defBody s_need_filling) = true := by decide +kernel
theorem sc_agrees : FnScope N_agrees p_agrees (defScope s_agrees) := ⟨rfl, rfl, rfl, by decide +kernel, rfl, by decide +kernel, by decide +kernel⟩
theorem ck_agrees : b_agrees.ck N_agrees cn (fun _ => true) (defScope s_agrees) (defBody s_agrees) = true := by decide +kernel
theorem sc_mixed : FnScope N_mixed p_mixed (defScope s_mixed) := ⟨rfl, rfl, rfl, by decide +kernel, rfl, by decide +kernel, by decide +kernel⟩
theorem ck_mixed : b_mixed.ck N_mixed cn (fun _ => true) (defScope s_mixed) (defBody s_mixed) = true := by decide +kernel
theorem sc_law_pouch : FnScope N_law_pouch p_law_pouch (defScope s_law_pouch) := ⟨rfl, rfl, rfl, by decide +kernel, rfl, by decide +kernel, by decide +kernel⟩
theorem ck_law_pouch : b_law_pouch.ck N_law_pouch cn (fun _ => true) (defScope s_law_pouch) (defBody s_law_pouch) = true := by decide +kernel
theorem sc_law_take : FnScope N_law_take p_law_take (defScope s_law_take) := ⟨rfl, rfl, rfl, by decide +kernel, rfl, by decide +kernel, by decide +kernel⟩
theorem ck_law_take : b_law_take.ck N_law_take cn (fun _ => true) (defScope s_law_take) (defBody s_law_take) = true := by decide +kernel
theorem sc_law_draw_sizes : FnScope N_law_draw_sizes p_law_draw_sizes (defScope s_law_draw_sizes) := ⟨rfl, rfl, rfl, by decide +kernel, rfl, by decide +kernel, by decide +kernel⟩
theorem ck_law_draw_sizes : b_law_draw_sizes.ck N_law_draw_sizes cn (fun _ => true) (defScope s_law_draw_sizes) (defBody s_law_draw_sizes) = true := by decide +kernel
theorem sc_law_draw_row : FnScope N_law_draw_row p_law_draw_row (defScope s_law_draw_row) := ⟨rfl, rfl, rfl, by decide +kernel, rfl, by decide +kernel, by decide +kernel⟩
theorem ck_law_draw_row : b_law_draw_row.ck N_law_draw_row cn (fun _ => true) (defScope s_law_draw_row) (defBody s_law_draw_row) = true := by decide +kernel
theorem sc_law_draw_partial : FnScope N_law_draw_partial p_law_draw_partial (defScope s_law_draw_partial) := ⟨rfl, rfl, rfl, by decide +kernel, rfl, by decide +kernel, by decide +kernel⟩
theorem ck_law_draw_partial : b_law_draw_partial.ck N_law_draw_partial cn (fun _ => true) (defScope s_law_draw_partial) (defBody s_law_draw_partial) = true := by decide +kernel
theorem sc_law_near : FnScope N_law_near p_law_near (defScope s_law_near) := ⟨rfl, rfl, rfl, by decide +kernel, rfl, by decide +kernel, by decide +kernel⟩
theorem ck_law_near : b_law_near.ck N_law_near cn (fun _ => true) (defScope s_law_near) (defBody s_law_near) = true := by decide +kernel
theorem sc_law : FnScope N_law p_law (defScope s_law) := ⟨rfl, rfl, rfl, by decide +kernel, rfl, by decide +kernel, by decide +kernel⟩
theorem ck_law : b_law.ck N_law cn (fun _ => true) (defScope s_law) (defBody s_law) = true := by decide +kernel
/-! ### the defs, by facts of the head -/
def d_between : He.DefD := ⟨("between", none), "between", "between", defArgs s_between, defBody s_between, defScope s_between, [], []⟩
def d_sheet_fits : He.DefD := ⟨("sheet_fits", none), "sheet_fits", "sheet_fits", defArgs s_sheet_fits, defBody s_sheet_fits, defScope s_sheet_fits, [], []⟩
def d_entry_fits : He.DefD := ⟨("entry_fits", none), "entry_fits", "entry_fits", defArgs s_entry_fits, defBody s_entry_fits, defScope s_entry_fits, [], []⟩
def d_part_fits : He.DefD := ⟨("part_fits", none), "part_fits", "part_fits", defArgs s_part_fits, defBody s_part_fits, defScope s_part_fits, [], []⟩
def d_filling_fits : He.DefD := ⟨("filling_fits", none), "filling_fits", "filling_fits", defArgs s_filling_fits, defBody s_filling_fits, defScope s_filling_fits, [], []⟩
def d_need_sheet : He.DefD := ⟨("need_sheet", none), "need_sheet", "need_sheet", defArgs s_need_sheet, defBody s_need_sheet, defScope s_need_sheet, [], []⟩
def d_need_part : He.DefD := ⟨("need_part", none), "need_part", "need_part", defArgs s_need_part, defBody s_need_part, defScope s_need_part, [], []⟩
def d_need_filling : He.DefD := ⟨("need_filling", none), "need_filling", "need_filling", defArgs s_need_filling, defBody s_need_filling, defScope s_need_filling, [], []⟩
def d_agrees : He.DefD := ⟨("agrees", none), "agrees", "agrees", defArgs s_agrees, defBody s_agrees, defScope s_agrees, [], []⟩
def d_mixed : He.DefD := ⟨("mixed", none), "mixed", "mixed", defArgs s_mixed, defBody s_mixed, defScope s_mixed, [], []⟩
def d_law_pouch : He.DefD := ⟨("_law_pouch", none), "_law_pouch", "_law_pouch", defArgs s_law_pouch, defBody s_law_pouch, defScope s_law_pouch, [], []⟩
def d_law_take : He.DefD := ⟨("_law_take", none), "_law_take", "_law_take", defArgs s_law_take, defBody s_law_take, defScope s_law_take, [], []⟩
def d_law_draw_sizes : He.DefD := ⟨("_law_draw_sizes", none), "_law_draw_sizes", "_law_draw_sizes", defArgs s_law_draw_sizes, defBody s_law_draw_sizes, defScope s_law_draw_sizes, [], []⟩
def d_law_draw_row : He.DefD := ⟨("_law_draw_row", none), "_law_draw_row", "_law_draw_row", defArgs s_law_draw_row, defBody s_law_draw_row, defScope s_law_draw_row, [], []⟩
def d_law_draw_partial : He.DefD := ⟨("_law_draw_partial", none), "_law_draw_partial", "_law_draw_partial", defArgs s_law_draw_partial, defBody s_law_draw_partial, defScope s_law_draw_partial, [], []⟩
def d_law_near : He.DefD := ⟨("_law_near", none), "_law_near", "_law_near", defArgs s_law_near, defBody s_law_near, defScope s_law_near, [], []⟩
def d_law : He.DefD := ⟨("law", none), "law", "law", defArgs s_law, defBody s_law, defScope s_law, [], []⟩
def fn : List He.DefD := [d_between, d_sheet_fits, d_entry_fits, d_part_fits, d_filling_fits, d_need_sheet, d_need_part, d_need_filling, d_agrees, d_mixed, d_law_pouch, d_law_take, d_law_draw_sizes, d_law_draw_row, d_law_draw_partial, d_law_near, d_law]
def fa : List He.Fa := [.free "range", .free "enumerate", .free "zip", .free "len", .free "all", .free "any", .free "tuple", .free "list", .free "int", .free "bool", .free "str", .free "abs", .free "repr", .free "type", .free "isinstance", .free "sum", .free "min", .free "max", .free "sorted", .free "set", .free "reversed", .free "dict", .int "MOST_FIELDS" 8, .int "MOST_VALUES" 5, .glo "between", .glo "sheet_fits", .glo "entry_fits", .glo "part_fits", .glo "filling_fits", .glo "need_sheet", .glo "need_part", .glo "need_filling", .glo "agrees", .glo "mixed", .glo "_law_pouch", .glo "_law_take", .glo "_law_draw_sizes", .glo "_law_draw_row", .glo "_law_draw_partial", .glo "_law_near", .glo "law"]
section
variable {P : Program} {w : World} {K : PySem.W.Frag} {mg : Str → Option Value} {h : Heap}
theorem glob (X : K.In h) (G : h.Ns mainGlobals mg) (c : He.SaysD fa fn K) : Glob mg cn where
  blt := by
    intro x hx
    simp only [bltNames, List.mem_cons, List.not_mem_nil, or_false] at hx
    rcases hx with rfl | rfl | rfl | rfl | rfl | rfl | rfl | rfl | rfl | rfl | rfl | rfl | rfl | rfl | rfl | rfl | rfl | rfl | rfl | rfl | rfl | rfl
    · exact He.free_ok X G (c.fact 0 (f := .free "range") rfl)
    · exact He.free_ok X G (c.fact 1 (f := .free "enumerate") rfl)
    · exact He.free_ok X G (c.fact 2 (f := .free "zip") rfl)
    · exact He.free_ok X G (c.fact 3 (f := .free "len") rfl)
    · exact He.free_ok X G (c.fact 4 (f := .free "all") rfl)
    · exact He.free_ok X G (c.fact 5 (f := .free "any") rfl)
    · exact He.free_ok X G (c.fact 6 (f := .free "tuple") rfl)
    · exact He.free_ok X G (c.fact 7 (f := .free "list") rfl)
    · exact He.free_ok X G (c.fact 8 (f := .free "int") rfl)
    · exact He.free_ok X G (c.fact 9 (f := .free "bool") rfl)
    · exact He.free_ok X G (c.fact 10 (f := .free "str") rfl)
    · exact He.free_ok X G (c.fact 11 (f := .free "abs") rfl)
    · exact He.free_ok X G (c.fact 12 (f := .free "repr") rfl)
    · exact He.free_ok X G (c.fact 13 (f := .free "type") rfl)
    · exact He.free_ok X G (c.fact 14 (f := .free "isinstance") rfl)
    · exact He.free_ok X G (c.fact 15 (f := .free "sum") rfl)
    · exact He.free_ok X G (c.fact 16 (f := .free "min") rfl)
    · exact He.free_ok X G (c.fact 17 (f := .free "max") rfl)
    · exact He.free_ok X G (c.fact 18 (f := .free "sorted") rfl)
    · exact He.free_ok X G (c.fact 19 (f := .free "set") rfl)
    · exact He.free_ok X G (c.fact 20 (f := .free "reversed") rfl)
    · exact He.free_ok X G (c.fact 21 (f := .free "dict") rfl)
  con := by
    intro q hq
    simp only [cn, List.mem_cons, List.not_mem_nil, or_false] at hq
    rcases hq with rfl | rfl
    · exact He.int_ok X G (c.fact 22 (f := .int "MOST_FIELDS" 8) rfl)
    · exact He.int_ok X G (c.fact 23 (f := .int "MOST_VALUES" 5) rfl)
structure Fns (P : Program) (w : World) (K : PySem.W.Frag) (mg : Str → Option Value) (base : Heap) : Prop where
  h_between : HasG P w K mg base 1 (.pos "between" 3 g_between)
  h_sheet_fits : HasG P w K mg base 2 (.pos "sheet_fits" 1 g_sheet_fits)
  h_entry_fits : HasG P w K mg base 2 (.pos "entry_fits" 3 g_entry_fits)
  h_part_fits : HasG P w K mg base 3 (.pos "part_fits" 2 g_part_fits)
  h_filling_fits : HasG P w K mg base 4 (.pos "filling_fits" 2 g_filling_fits)
  h_need_sheet : HasG P w K mg base 3 (.pos "need_sheet" 1 g_need_sheet)
  h_need_part : HasG P w K mg base 4 (.pos "need_part" 2 g_need_part)
  h_need_filling : HasG P w K mg base 5 (.pos "need_filling" 2 g_need_filling)
  h_agrees : HasG P w K mg base 6 (.pos "agrees" 3 g_agrees)
  k_agrees_0 : HasG P w K mg base 6 (.kw "agrees" g_agrees 0 ["part", "sheet", "filling"] [1, 2, 0])
  k_mixed_0 : HasG P w K mg base 6 (.kw "mixed" g_mixed 1 ["first", "second", "third"] [0, 1, 2, 3])
  k_mixed_1 : HasG P w K mg base 6 (.kw "mixed" g_mixed 0 ["third", "first", "sheet", "second"] [2, 1, 3, 0])
  h_law_pouch : HasG P w K mg base 1 (.pos "_law_pouch" 1 g_law_pouch)
  h_law_take : HasG P w K mg base 1 (.pos "_law_take" 2 g_law_take)
  h_law_draw_sizes : HasG P w K mg base 2 (.pos "_law_draw_sizes" 3 g_law_draw_sizes)
  h_law_draw_row : HasG P w K mg base 2 (.pos "_law_draw_row" 2 g_law_draw_row)
  h_law_draw_partial : HasG P w K mg base 2 (.pos "_law_draw_partial" 2 g_law_draw_partial)
  h_law_near : HasG P w K mg base 2 (.pos "_law_near" 3 g_law_near)
theorem fns {f : Addr} (X : K.In h) (G : h.Ns mainGlobals mg) (hfa : mg ("law" : Str) = some (.ref f)) (c : He.SaysD fa fn K) :
    ∃ fd : FuncData, (∀ (s : Shared) (v : Value), BindsTo s fd ⟨[v], []⟩ [("script", v)]) ∧ ∀ base : Heap, K.In base → base.Ns mainGlobals mg → FnG P w K mg base 7 f fd ["script"] (spG K 1 g_law) := by
  have gl := glob X G c
  obtain ⟨fd_between, F_between⟩ := c.def_ 0 (d := d_between) rfl
  obtain ⟨fd_sheet_fits, F_sheet_fits⟩ := c.def_ 1 (d := d_sheet_fits) rfl
  obtain ⟨fd_entry_fits, F_entry_fits⟩ := c.def_ 2 (d := d_entry_fits) rfl
  obtain ⟨fd_part_fits, F_part_fits⟩ := c.def_ 3 (d := d_part_fits) rfl
  obtain ⟨fd_filling_fits, F_filling_fits⟩ := c.def_ 4 (d := d_filling_fits) rfl
  obtain ⟨fd_need_sheet, F_need_sheet⟩ := c.def_ 5 (d := d_need_sheet) rfl
  obtain ⟨fd_need_part, F_need_part⟩ := c.def_ 6 (d := d_need_part) rfl
  obtain ⟨fd_need_filling, F_need_filling⟩ := c.def_ 7 (d := d_need_filling) rfl
  obtain ⟨fd_agrees, F_agrees⟩ := c.def_ 8 (d := d_agrees) rfl
  obtain ⟨fd_mixed, F_mixed⟩ := c.def_ 9 (d := d_mixed) rfl
  obtain ⟨fd_law_pouch, F_law_pouch⟩ := c.def_ 10 (d := d_law_pouch) rfl
  obtain ⟨fd_law_take, F_law_take⟩ := c.def_ 11 (d := d_law_take) rfl
  obtain ⟨fd_law_draw_sizes, F_law_draw_sizes⟩ := c.def_ 12 (d := d_law_draw_sizes) rfl
  obtain ⟨fd_law_draw_row, F_law_draw_row⟩ := c.def_ 13 (d := d_law_draw_row) rfl
  obtain ⟨fd_law_draw_partial, F_law_draw_partial⟩ := c.def_ 14 (d := d_law_draw_partial) rfl
  obtain ⟨fd_law_near, F_law_near⟩ := c.def_ 15 (d := d_law_near) rfl
  obtain ⟨fd_law, F_law⟩ := c.def_ 16 (d := d_law) rfl
  cases hfa.symm.trans (He.glo_ok X G (c.fact 40 (f := .glo "law") rfl))
  have bl := FunD.bindsA (ps := ["script"]) F_law fun _ _ _ _ _ _ us hl => match us, hl with | [_], _ => rfl
  refine ⟨fd_law, fun s v => bl s [v] rfl, fun base _ _ => ?_⟩
  have G_between : FnG P w K mg base 1 (He.fAd K d_between.at_) fd_between p_between (spG K 3 g_between) := by
    refine def_ok F_between sc_between gl b_between ck_between (fun q hq => ?_)
    have hq2 : q ∈ b_between.need := hq
    simp only [b_between, Ss.need, S.need, Sm.need, T.need, B.need, I.need, As.need, Ws.need, O.need, Ws.len, List.nil_append, List.append_nil, List.cons_append, List.mem_cons, List.mem_append, List.not_mem_nil, or_false, false_or, or_assoc] at hq2
  have h_between : HasG P w K mg base 1 (.pos "between" 3 g_between) := ⟨_, fd_between, p_between, He.glo_ok X G (c.fact 24 (f := .glo "between") rfl), F_between.kp, F_between.bindsN (fun _ _ _ _ _ _ us hl => match us, hl with | [_, _, _], _ => rfl), rfl, G_between⟩
  have G_sheet_fits : FnG P w K mg base 2 (He.fAd K d_sheet_fits.at_) fd_sheet_fits p_sheet_fits (spG K 1 g_sheet_fits) := by
    refine def_ok F_sheet_fits sc_sheet_fits gl b_sheet_fits ck_sheet_fits (fun q hq => ?_)
    have hq2 : q ∈ b_sheet_fits.need := hq
    simp only [b_sheet_fits, Ss.need, S.need, Sm.need, T.need, B.need, I.need, As.need, Ws.need, O.need, Ws.len, List.nil_append, List.append_nil, List.cons_append, List.mem_cons, List.mem_append, List.not_mem_nil, or_false, false_or, or_assoc] at hq2
    repeat' (rcases hq2 with hq2 | hq2)
    all_goals try subst hq2
    all_goals first | exact h_between.mono (by decide)
  have h_sheet_fits : HasG P w K mg base 2 (.pos "sheet_fits" 1 g_sheet_fits) := ⟨_, fd_sheet_fits, p_sheet_fits, He.glo_ok X G (c.fact 25 (f := .glo "sheet_fits") rfl), F_sheet_fits.kp, F_sheet_fits.bindsN (fun _ _ _ _ _ _ us hl => match us, hl with | [_], _ => rfl), rfl, G_sheet_fits⟩
  have G_entry_fits : FnG P w K mg base 2 (He.fAd K d_entry_fits.at_) fd_entry_fits p_entry_fits (spG K 3 g_entry_fits) := by
    refine def_ok F_entry_fits sc_entry_fits gl b_entry_fits ck_entry_fits (fun q hq => ?_)
    have hq2 : q ∈ b_entry_fits.need := hq
    simp only [b_entry_fits, Ss.need, S.need, Sm.need, T.need, B.need, I.need, As.need, Ws.need, O.need, Ws.len, List.nil_append, List.append_nil, List.cons_append, List.mem_cons, List.mem_append, List.not_mem_nil, or_false, false_or, or_assoc] at hq2
    repeat' (rcases hq2 with hq2 | hq2)
    all_goals try subst hq2
    all_goals first | exact h_between.mono (by decide)
  have h_entry_fits : HasG P w K mg base 2 (.pos "entry_fits" 3 g_entry_fits) := ⟨_, fd_entry_fits, p_entry_fits, He.glo_ok X G (c.fact 26 (f := .glo "entry_fits") rfl), F_entry_fits.kp, F_entry_fits.bindsN (fun _ _ _ _ _ _ us hl => match us, hl with | [_, _, _], _ => rfl), rfl, G_entry_fits⟩
  have G_part_fits : FnG P w K mg base 3 (He.fAd K d_part_fits.at_) fd_part_fits p_part_fits (spG K 2 g_part_fits) := by
    refine def_ok F_part_fits sc_part_fits gl b_part_fits ck_part_fits (fun q hq => ?_)
    have hq2 : q ∈ b_part_fits.need := hq
    simp only [b_part_fits, Ss.need, S.need, Sm.need, T.need, B.need, I.need, As.need, Ws.need, O.need, Ws.len, List.nil_append, List.append_nil, List.cons_append, List.mem_cons, List.mem_append, List.not_mem_nil, or_false, false_or, or_assoc] at hq2
    repeat' (rcases hq2 with hq2 | hq2)
    all_goals try subst hq2
    all_goals first | exact h_entry_fits.mono (by decide)
  have h_part_fits : HasG P w K mg base 3 (.pos "part_fits" 2 g_part_fits) := ⟨_, fd_part_fits, p_part_fits, He.glo_ok X G (c.fact 27 (f := .glo "part_fits") rfl), F_part_fits.kp, F_part_fits.bindsN (fun _ _ _ _ _ _ us hl => match us, hl with | [_, _], _ => rfl), rfl, G_part_fits⟩
  have G_filling_fits : FnG P w K mg base 4 (He.fAd K d_filling_fits.at_) fd_filling_fits p_filling_fits (spG K 2 g_filling_fits) := by
    refine def_ok F_filling_fits sc_filling_fits gl b_filling_fits ck_filling_fits (fun q hq => ?_)
    have hq2 : q ∈ b_filling_fits.need := hq
    simp only [b_filling_fits, Ss.need, S.need, Sm.need, T.need, B.need, I.need, As.need, Ws.need, O.need, Ws.len, List.nil_append, List.append_nil, List.cons_append, List.mem_cons, List.mem_append, List.not_mem_nil, or_false, false_or, or_assoc] at hq2
    repeat' (rcases hq2 with hq2 | hq2)
    all_goals try subst hq2
    all_goals first | exact h_part_fits.mono (by decide)
  have h_filling_fits : HasG P w K mg base 4 (.pos "filling_fits" 2 g_filling_fits) := ⟨_, fd_filling_fits, p_filling_fits, He.glo_ok X G (c.fact 28 (f := .glo "filling_fits") rfl), F_filling_fits.kp, F_filling_fits.bindsN (fun _ _ _ _ _ _ us hl => match us, hl with | [_, _], _ => rfl), rfl, G_filling_fits⟩
  have G_need_sheet : FnG P w K mg base 3 (He.fAd K d_need_sheet.at_) fd_need_sheet p_need_sheet (spG K 1 g_need_sheet) := by
    refine def_ok F_need_sheet sc_need_sheet gl b_need_sheet ck_need_sheet (fun q hq => ?_)
    have hq2 : q ∈ b_need_sheet.need := hq
    simp only [b_need_sheet, Ss.need, S.need, Sm.need, T.need, B.need, I.need, As.need, Ws.need, O.need, Ws.len, List.nil_append, List.append_nil, List.cons_append, List.mem_cons, List.mem_append, List.not_mem_nil, or_false, false_or, or_assoc] at hq2
    repeat' (rcases hq2 with hq2 | hq2)
    all_goals try subst hq2
    all_goals first | exact h_sheet_fits.mono (by decide)
  have h_need_sheet : HasG P w K mg base 3 (.pos "need_sheet" 1 g_need_sheet) := ⟨_, fd_need_sheet, p_need_sheet, He.glo_ok X G (c.fact 29 (f := .glo "need_sheet") rfl), F_need_sheet.kp, F_need_sheet.bindsN (fun _ _ _ _ _ _ us hl => match us, hl with | [_], _ => rfl), rfl, G_need_sheet⟩
  have G_need_part : FnG P w K mg base 4 (He.fAd K d_need_part.at_) fd_need_part p_need_part (spG K 2 g_need_part) := by
    refine def_ok F_need_part sc_need_part gl b_need_part ck_need_part (fun q hq => ?_)
    have hq2 : q ∈ b_need_part.need := hq
    simp only [b_need_part, Ss.need, S.need, Sm.need, T.need, B.need, I.need, As.need, Ws.need, O.need, Ws.len, List.nil_append, List.append_nil, List.cons_append, List.mem_cons, List.mem_append, List.not_mem_nil, or_false, false_or, or_assoc] at hq2
    repeat' (rcases hq2 with hq2 | hq2)
    all_goals try subst hq2
    all_goals first | exact h_part_fits.mono (by decide)
  have h_need_part : HasG P w K mg base 4 (.pos "need_part" 2 g_need_part) := ⟨_, fd_need_part, p_need_part, He.glo_ok X G (c.fact 30 (f := .glo "need_part") rfl), F_need_part.kp, F_need_part.bindsN (fun _ _ _ _ _ _ us hl => match us, hl with | [_, _], _ => rfl), rfl, G_need_part⟩
  have G_need_filling : FnG P w K mg base 5 (He.fAd K d_need_filling.at_) fd_need_filling p_need_filling (spG K 2 g_need_filling) := by
    refine def_ok F_need_filling sc_need_filling gl b_need_filling ck_need_filling (fun q hq => ?_)
    have hq2 : q ∈ b_need_filling.need := hq
    simp only [b_need_filling, Ss.need, S.need, Sm.need, T.need, B.need, I.need, As.need, Ws.need, O.need, Ws.len, List.nil_append, List.append_nil, List.cons_append, List.mem_cons, List.mem_append, List.not_mem_nil, or_false, false_or, or_assoc] at hq2
    repeat' (rcases hq2 with hq2 | hq2)
    all_goals try subst hq2
    all_goals first | exact h_filling_fits.mono (by decide)
  have h_need_filling : HasG P w K mg base 5 (.pos "need_filling" 2 g_need_filling) := ⟨_, fd_need_filling, p_need_filling, He.glo_ok X G (c.fact 31 (f := .glo "need_filling") rfl), F_need_filling.kp, F_need_filling.bindsN (fun _ _ _ _ _ _ us hl => match us, hl with | [_, _], _ => rfl), rfl, G_need_filling⟩
  have G_agrees : FnG P w K mg base 6 (He.fAd K d_agrees.at_) fd_agrees p_agrees (spG K 3 g_agrees) := by
    refine def_ok F_agrees sc_agrees gl b_agrees ck_agrees (fun q hq => ?_)
    have hq2 : q ∈ b_agrees.need := hq
    simp only [b_agrees, Ss.need, S.need, Sm.need, T.need, B.need, I.need, As.need, Ws.need, O.need, Ws.len, List.nil_append, List.append_nil, List.cons_append, List.mem_cons, List.mem_append, List.not_mem_nil, or_false, false_or, or_assoc] at hq2
    repeat' (rcases hq2 with hq2 | hq2)
    all_goals try subst hq2
    all_goals first | exact h_need_sheet.mono (by decide) | exact h_need_filling.mono (by decide) | exact h_need_part.mono (by decide)
  have h_agrees : HasG P w K mg base 6 (.pos "agrees" 3 g_agrees) := ⟨_, fd_agrees, p_agrees, He.glo_ok X G (c.fact 32 (f := .glo "agrees") rfl), F_agrees.kp, F_agrees.bindsN (fun _ _ _ _ _ _ us hl => match us, hl with | [_, _, _], _ => rfl), rfl, G_agrees⟩
  have k_agrees_0 : HasG P w K mg base 6 (.kw "agrees" g_agrees 0 ["part", "sheet", "filling"] [1, 2, 0]) := ⟨_, fd_agrees, p_agrees, He.glo_ok X G (c.fact 32 (f := .glo "agrees") rfl), F_agrees.kp, kwB_of F_agrees (fun _ _ _ _ _ _ us ws h1 h2 => match us, ws, h1, h2 with | [], [_, _, _], _, _ => rfl), G_agrees⟩
  have G_mixed : FnG P w K mg base 6 (He.fAd K d_mixed.at_) fd_mixed p_mixed (spG K 4 g_mixed) := by
    refine def_ok F_mixed sc_mixed gl b_mixed ck_mixed (fun q hq => ?_)
    have hq2 : q ∈ b_mixed.need := hq
    simp only [b_mixed, Ss.need, S.need, Sm.need, T.need, B.need, I.need, As.need, Ws.need, O.need, Ws.len, List.nil_append, List.append_nil, List.cons_append, List.mem_cons, List.mem_append, List.not_mem_nil, or_false, false_or, or_assoc] at hq2
    repeat' (rcases hq2 with hq2 | hq2)
    all_goals try subst hq2
    all_goals first | exact h_need_sheet.mono (by decide) | exact h_need_filling.mono (by decide)
  have k_mixed_0 : HasG P w K mg base 6 (.kw "mixed" g_mixed 1 ["first", "second", "third"] [0, 1, 2, 3]) := ⟨_, fd_mixed, p_mixed, He.glo_ok X G (c.fact 33 (f := .glo "mixed") rfl), F_mixed.kp, kwB_of F_mixed (fun _ _ _ _ _ _ us ws h1 h2 => match us, ws, h1, h2 with | [_], [_, _, _], _, _ => rfl), G_mixed⟩
  have k_mixed_1 : HasG P w K mg base 6 (.kw "mixed" g_mixed 0 ["third", "first", "sheet", "second"] [2, 1, 3, 0]) := ⟨_, fd_mixed, p_mixed, He.glo_ok X G (c.fact 33 (f := .glo "mixed") rfl), F_mixed.kp, kwB_of F_mixed (fun _ _ _ _ _ _ us ws h1 h2 => match us, ws, h1, h2 with | [], [_, _, _, _], _, _ => rfl), G_mixed⟩
  have G_law_pouch : FnG P w K mg base 1 (He.fAd K d_law_pouch.at_) fd_law_pouch p_law_pouch (spG K 1 g_law_pouch) := by
    refine def_ok F_law_pouch sc_law_pouch gl b_law_pouch ck_law_pouch (fun q hq => ?_)
    have hq2 : q ∈ b_law_pouch.need := hq
    simp only [b_law_pouch, Ss.need, S.need, Sm.need, T.need, B.need, I.need, As.need, Ws.need, O.need, Ws.len, List.nil_append, List.append_nil, List.cons_append, List.mem_cons, List.mem_append, List.not_mem_nil, or_false, false_or, or_assoc] at hq2
  have h_law_pouch : HasG P w K mg base 1 (.pos "_law_pouch" 1 g_law_pouch) := ⟨_, fd_law_pouch, p_law_pouch, He.glo_ok X G (c.fact 34 (f := .glo "_law_pouch") rfl), F_law_pouch.kp, F_law_pouch.bindsN (fun _ _ _ _ _ _ us hl => match us, hl with | [_], _ => rfl), rfl, G_law_pouch⟩
  have G_law_take : FnG P w K mg base 1 (He.fAd K d_law_take.at_) fd_law_take p_law_take (spG K 2 g_law_take) := by
    refine def_ok F_law_take sc_law_take gl b_law_take ck_law_take (fun q hq => ?_)
    have hq2 : q ∈ b_law_take.need := hq
    simp only [b_law_take, Ss.need, S.need, Sm.need, T.need, B.need, I.need, As.need, Ws.need, O.need, Ws.len, List.nil_append, List.append_nil, List.cons_append, List.mem_cons, List.mem_append, List.not_mem_nil, or_false, false_or, or_assoc] at hq2
  have h_law_take : HasG P w K mg base 1 (.pos "_law_take" 2 g_law_take) := ⟨_, fd_law_take, p_law_take, He.glo_ok X G (c.fact 35 (f := .glo "_law_take") rfl), F_law_take.kp, F_law_take.bindsN (fun _ _ _ _ _ _ us hl => match us, hl with | [_, _], _ => rfl), rfl, G_law_take⟩
  have G_law_draw_sizes : FnG P w K mg base 2 (He.fAd K d_law_draw_sizes.at_) fd_law_draw_sizes p_law_draw_sizes (spG K 3 g_law_draw_sizes) := by
    refine def_ok F_law_draw_sizes sc_law_draw_sizes gl b_law_draw_sizes ck_law_draw_sizes (fun q hq => ?_)
    have hq2 : q ∈ b_law_draw_sizes.need := hq
    simp only [b_law_draw_sizes, Ss.need, S.need, Sm.need, T.need, B.need, I.need, As.need, Ws.need, O.need, Ws.len, List.nil_append, List.append_nil, List.cons_append, List.mem_cons, List.mem_append, List.not_mem_nil, or_false, false_or, or_assoc] at hq2
    repeat' (rcases hq2 with hq2 | hq2)
    all_goals try subst hq2
    all_goals first | exact h_law_take.mono (by decide)
  have h_law_draw_sizes : HasG P w K mg base 2 (.pos "_law_draw_sizes" 3 g_law_draw_sizes) := ⟨_, fd_law_draw_sizes, p_law_draw_sizes, He.glo_ok X G (c.fact 36 (f := .glo "_law_draw_sizes") rfl), F_law_draw_sizes.kp, F_law_draw_sizes.bindsN (fun _ _ _ _ _ _ us hl => match us, hl with | [_, _, _], _ => rfl), rfl, G_law_draw_sizes⟩
  have G_law_draw_row : FnG P w K mg base 2 (He.fAd K d_law_draw_row.at_) fd_law_draw_row p_law_draw_row (spG K 2 g_law_draw_row) := by
    refine def_ok F_law_draw_row sc_law_draw_row gl b_law_draw_row ck_law_draw_row (fun q hq => ?_)
    have hq2 : q ∈ b_law_draw_row.need := hq
    simp only [b_law_draw_row, Ss.need, S.need, Sm.need, T.need, B.need, I.need, As.need, Ws.need, O.need, Ws.len, List.nil_append, List.append_nil, List.cons_append, List.mem_cons, List.mem_append, List.not_mem_nil, or_false, false_or, or_assoc] at hq2
    repeat' (rcases hq2 with hq2 | hq2)
    all_goals try subst hq2
    all_goals first | exact h_law_take.mono (by decide)
  have h_law_draw_row : HasG P w K mg base 2 (.pos "_law_draw_row" 2 g_law_draw_row) := ⟨_, fd_law_draw_row, p_law_draw_row, He.glo_ok X G (c.fact 37 (f := .glo "_law_draw_row") rfl), F_law_draw_row.kp, F_law_draw_row.bindsN (fun _ _ _ _ _ _ us hl => match us, hl with | [_, _], _ => rfl), rfl, G_law_draw_row⟩
  have G_law_draw_partial : FnG P w K mg base 2 (He.fAd K d_law_draw_partial.at_) fd_law_draw_partial p_law_draw_partial (spG K 2 g_law_draw_partial) := by
    refine def_ok F_law_draw_partial sc_law_draw_partial gl b_law_draw_partial ck_law_draw_partial (fun q hq => ?_)
    have hq2 : q ∈ b_law_draw_partial.need := hq
    simp only [b_law_draw_partial, Ss.need, S.need, Sm.need, T.need, B.need, I.need, As.need, Ws.need, O.need, Ws.len, List.nil_append, List.append_nil, List.cons_append, List.mem_cons, List.mem_append, List.not_mem_nil, or_false, false_or, or_assoc] at hq2
    repeat' (rcases hq2 with hq2 | hq2)
    all_goals try subst hq2
    all_goals first | exact h_law_take.mono (by decide)
  have h_law_draw_partial : HasG P w K mg base 2 (.pos "_law_draw_partial" 2 g_law_draw_partial) := ⟨_, fd_law_draw_partial, p_law_draw_partial, He.glo_ok X G (c.fact 38 (f := .glo "_law_draw_partial") rfl), F_law_draw_partial.kp, F_law_draw_partial.bindsN (fun _ _ _ _ _ _ us hl => match us, hl with | [_, _], _ => rfl), rfl, G_law_draw_partial⟩
  have G_law_near : FnG P w K mg base 2 (He.fAd K d_law_near.at_) fd_law_near p_law_near (spG K 3 g_law_near) := by
    refine def_ok F_law_near sc_law_near gl b_law_near ck_law_near (fun q hq => ?_)
    have hq2 : q ∈ b_law_near.need := hq
    simp only [b_law_near, Ss.need, S.need, Sm.need, T.need, B.need, I.need, As.need, Ws.need, O.need, Ws.len, List.nil_append, List.append_nil, List.cons_append, List.mem_cons, List.mem_append, List.not_mem_nil, or_false, false_or, or_assoc] at hq2
    repeat' (rcases hq2 with hq2 | hq2)
    all_goals try subst hq2
    all_goals first | exact h_law_take.mono (by decide)
  have h_law_near : HasG P w K mg base 2 (.pos "_law_near" 3 g_law_near) := ⟨_, fd_law_near, p_law_near, He.glo_ok X G (c.fact 39 (f := .glo "_law_near") rfl), F_law_near.kp, F_law_near.bindsN (fun _ _ _ _ _ _ us hl => match us, hl with | [_, _, _], _ => rfl), rfl, G_law_near⟩
  have G_law : FnG P w K mg base 7 (He.fAd K d_law.at_) fd_law p_law (spG K 1 g_law) := by
    refine def_ok F_law sc_law gl b_law ck_law (fun q hq => ?_)
    have hq2 : q ∈ b_law.need := hq
    simp only [b_law, Ss.need, S.need, Sm.need, T.need, B.need, I.need, As.need, Ws.need, O.need, Ws.len, List.nil_append, List.append_nil, List.cons_append, List.mem_cons, List.mem_append, List.not_mem_nil, or_false, false_or, or_assoc] at hq2
    repeat' (rcases hq2 with hq2 | hq2)
    all_goals try subst hq2
    all_goals first | exact h_law_pouch.mono (by decide) | exact h_law_draw_sizes.mono (by decide) | exact h_law_draw_row.mono (by decide) | exact h_law_near.mono (by decide) | exact h_law_draw_partial.mono (by decide) | exact h_law_take.mono (by decide) | exact h_agrees.mono (by decide) | exact k_agrees_0.mono (by decide) | exact k_mixed_0.mono (by decide) | exact k_mixed_1.mono (by decide)
  exact G_law
end
end K06

set_option Elab.async false
set_option linter.all false
set_option maxRecDepth 100000
set_option maxHeartbeats 2000000
namespace K06
open PySem PySem.Spec PyProof.Rows L2 EF
structure Upd (n : Nat) (st s : Sto) : Prop where
  len : s.length = st.length
  oth : ∀ m, m ≠ n → s[m]? = st[m]?
theorem Upd.refl {n : Nat} {st : Sto} : Upd n st st := ⟨rfl, fun _ _ => rfl⟩
theorem Upd.trans {n : Nat} {a b c : Sto} (h : Upd n a b) (k : Upd n b c) : Upd n a c := ⟨k.len.trans h.len, fun m q => (k.oth m q).trans (h.oth m q)⟩
def Bag (Z : Int) (n : Nat) (st : Sto) : Prop := ∃ r b t : Int, st[n]? = some (some [.int r, .int b, .int t]) ∧ 0 ≤ b ∧ b < 10 ^ 18 ∧ 0 ≤ t ∧ t ≤ Z
theorem upd_set {n : Nat} {st : Sto} {x : Option (List PyData)} : Upd n st (st.set n x) := ⟨List.length_set, fun m q => List.getElem?_set_ne (Ne.symm q)⟩
theorem take_set {n : Nat} {st : Sto} {x : Option (List PyData)} : (st.set n x).take st.length = st.set n x := List.take_of_length_le (by rw [List.length_set]; exact Nat.le_refl _)
theorem Bag.lt {Z : Int} {n : Nat} {st : Sto} (h : Bag Z n st) : n < st.length := let ⟨_, _, _, e, _⟩ := h; (List.getElem?_eq_some_iff.mp e).1
theorem take_ok {Z : Int} {n : Nat} {st : Sto} {m : Int} (h : Bag Z n st) (hZ : Z < 2 ^ 59) (hm : 1 ≤ m) (hm2 : m < 2 ^ 60) :
    Ok (g_law_take [.c n, .d (.int m)] st) fun w s => ∃ d : Int, w = .d (.int d) ∧ 0 ≤ d ∧ d < m ∧ Upd n st s ∧ Bag (Z + 1) n s := by
  have hn := h.lt
  obtain ⟨r, b, t, e, h1, h2, h3, h4⟩ := h
  have e' := lstAt_of e
  unfold g_law_take
  rw [ok_fn]
  simp only [Ss.ev, S.ev, Sm.ev, T.ev, T.evF, EF.B.ev, I.ev, As.ev, Ws.ev, O.ev, BOp.d, COp.d, F1.d, ok_seq, ok_ifS, ok_set1, ok_setS, ok_ret, ok_retn, ok_drop, ok_par, ok_putX, ok_new, ok_retc, ok_setc, ok_skip, ok_brk, ok_cnt, then_nx, then_rt, then_bk, then_ct, ok_rdV, ok_bin2, ok_un1, ok_k, ok_asB, isB_b, ok_andX, ok_orX, ok_notX, ok_andB, ok_orB, ok_notB, ok_iteX, ok_nilX, ok_consX, ok_tupX, ok_fitX, ok_lsX, ok_cixX, ok_rdC, contD_c, contD_s, at3_0, at3_1, at3_2, ix3_0, ix3_1, ix3_2, isI_i, ok_someO, ok_noO, ok_sliX, ok_csliX, ok_rdCV, ok_tyX, ok_isiX, ok_chn, ok_nilW, ok_consW, ok_datW, ok_celW, ok_callX, isD_d, isP_p, ok_appX, ok_bind, ok_pure, ok_ofOpt, oko_some, oko_none, slotD_d, slotC_c, o_add, o_sub, o_mul, o_fdiv, o_pow, o_mod, o_lt, o_le, o_gt, o_ge, o_eq, o_ne, o_int, List.getElem?_cons_zero, List.getElem?_cons_succ, List.set_cons_zero, List.set_cons_succ, Nat.reduceAdd, List.set_cons_zero, exists_eq_left, exists_eq_left', end_d, end_nx, end_c, Option.some.injEq, decide_eq_true_eq, decide_eq_false_iff_not, b_law_take, startR, List.map, List.length, List.replicate, List.cons_append, List.nil_append, e', lstAt_set hn, take_set]
  have bt : Bd 60 (t + 1) := bd_60 (by omega) (by omega)
  have bb : Bd 60 b := bd_60 (by omega) (by omega)
  have bm : Bd 60 m := bd_60 (by omega) (by omega)
  have b5 : Bd 60 5 := bd_60 (by omega) (by omega)
  have b7 : Bd 60 10007 := bd_60 (by omega) (by omega)
  have b71 : Bd 60 71 := bd_60 (by omega) (by omega)
  have b4 : Bd 60 40961 := bd_60 (by omega) (by omega)
  have b9 : Bd 60 977 := bd_60 (by omega) (by omega)
  have b40 : Bd 60 4096 := bd_60 (by omega) (by omega)
  refine ⟨fun _ => ⟨by omega, ⟨by omega, bd_big bm (by omega)⟩, _, rfl, Int.emod_nonneg _ (by omega), Int.emod_lt_of_pos _ (by omega), upd_set, ?_⟩, fun _ => ?_⟩
  · exact ⟨_, _, _, List.getElem?_set_self hn, h1, h2, h3, by omega⟩
  · generalize hs : (b + 5 * (t + 1)) * (b + 10007 * (t + 1) * (t + 1) + 71) % 9999999999999937 = s
    have hs0 : 0 ≤ s := hs ▸ Int.emod_nonneg _ (by omega)
    have hs1 : s < 9999999999999937 := hs ▸ Int.emod_lt_of_pos _ (by omega)
    have bs : Bd 60 s := bd_60 hs0 (by omega)
    refine ⟨⟨bd_big b5 (by omega), bd_big bt (by omega)⟩, ⟨bd_big b7 (by omega), bd_big bt (by omega)⟩, ⟨bd_big (bd_mul b7 bt) (by omega), bd_big bt (by omega)⟩,
      ⟨bd_big (bd_add bb (bd_mul b5 bt)) (by omega), bd_big (bd_add (bd_add bb (bd_mul (bd_mul b7 bt) bt)) b71) (by omega)⟩, by omega, ⟨bd_big bs (by omega), bd_big bs (by omega)⟩,
      ⟨bd_big (bd_mul bs bs) (by omega), bd_big bs (by omega)⟩, ⟨bd_big b4 (by omega), bd_big bs (by omega)⟩, ⟨bd_big b9 (by omega), bd_big bt (by omega)⟩, by omega, ⟨by omega, bd_big b40 (by omega)⟩, by omega,
      _, rfl, Int.emod_nonneg _ (by omega), Int.emod_lt_of_pos _ (by omega), upd_set, ?_⟩
    exact ⟨_, _, _, List.getElem?_set_self hn, h1, h2, by omega, by omega⟩
end K06

set_option Elab.async false
set_option linter.all false
set_option maxRecDepth 100000
set_option maxHeartbeats 2000000
namespace K06
open PySem PySem.Spec PyProof.Rows L2 EF
theorem takeL {st s : Sto} (h : s.length = st.length) : s.take st.length = s := List.take_of_length_le (by rw [h]; exact Nat.le_refl _)
theorem takeR {st : Sto} : st.take st.length = st := List.take_of_length_le (Nat.le_refl _)
theorem between_eq {v l h : Int} {st : Sto} : g_between [.d (.int v), .d (.int l), .d (.int h)] st = some (.d (.bool (decide (l ≤ v ∧ v ≤ h))), st) := by
  refine ok_eq ?_
  unfold g_between
  simp only [Ss.ev, S.ev, Sm.ev, T.ev, T.evF, EF.B.ev, I.ev, As.ev, Ws.ev, O.ev, BOp.d, COp.d, F1.d, ok_seq, ok_ifS, ok_set1, ok_setS, ok_ret, ok_retn, ok_drop, ok_par, ok_putX, ok_new, ok_retc, ok_setc, ok_skip, ok_brk, ok_cnt, then_nx, then_rt, then_bk, then_ct, ok_rdV, ok_bin2, ok_un1, ok_k, ok_asB, isB_b, ok_andX, ok_orX, ok_notX, ok_andB, ok_orB, ok_notB, ok_iteX, ok_nilX, ok_consX, ok_tupX, ok_fitX, ok_lsX, ok_cixX, ok_rdC, contD_c, contD_s, at3_0, at3_1, at3_2, ix3_0, ix3_1, ix3_2, isI_i, ok_someO, ok_noO, ok_sliX, ok_csliX, ok_rdCV, ok_tyX, ok_isiX, ok_chn, ok_nilW, ok_consW, ok_datW, ok_celW, ok_callX, isD_d, isP_p, ok_appX, ok_bind, ok_pure, ok_ofOpt, oko_some, oko_none, slotD_d, slotC_c, o_add, o_sub, o_mul, o_fdiv, o_pow, o_mod, o_lt, o_le, o_gt, o_ge, o_eq, o_ne, o_int, List.getElem?_cons_zero, List.getElem?_cons_succ, List.set_cons_zero, List.set_cons_succ, Nat.reduceAdd, List.set_cons_zero, exists_eq_left, exists_eq_left', end_d, end_nx, end_c, Option.some.injEq, decide_eq_true_eq, decide_eq_false_iff_not, ok_anyI, seq_t, seq_l, ok_rng1, ok_enum, ok_lcF, ok_forS, put_nm, put_tp2, put_tp3, wipeR, startR, List.map_cons, List.map_nil, List.length_cons, List.length_nil, List.replicate, List.cons_append, List.nil_append, true_implies, false_implies, forall_const, and_true, true_and, and_false, false_and, Bool.false_eq_true, Bool.true_eq_false, Bool.not_true, Bool.not_false, Bool.not_eq_true', Bool.not_eq_false', Bool.not_eq_eq_eq_not, isi_int, isi_intb, if_true, Bool.if_true_left, ok_callKX, o_catt, o_catl, o_slit, o_slil, ok_fn, turn_nx, turn_rt, ok_some, b_between, takeR]
  refine ⟨fun h1 => ?_, fun h1 => ?_⟩
  · simp [h1]
  · have : ¬ (l ≤ v ∧ v ≤ h) := fun z => h1 z.1
    simp [this]
def rowD (xs : List Int) : PyData := .tuple (xs.map .int)
def optD : Option Int → PyData
  | none => .none
  | some i => .int i
def partD (ps : List (Option Int)) : PyData := .tuple (ps.map optD)
def Sheet (zs : List Int) : Prop := 1 ≤ zs.length ∧ zs.length ≤ 8 ∧ ∀ z ∈ zs, 1 ≤ z ∧ z ≤ 5
theorem line8 : 1000 ≤ sizeLine := by decide
theorem len_t {ds : List PyData} {P : PyData → Prop} : OkO (lenD (.tuple ds)) P ↔ P (.int ds.length) := oko_some
theorem len_l {ds : List PyData} {P : PyData → Prop} : OkO (lenD (.list ds)) P ↔ P (.int ds.length) := oko_some
theorem ty_t {ds : List PyData} : tyName (.tuple ds) = "tuple" := rfl
theorem bools_map {bs : List Bool} : bools (bs.map .bool) = some bs := by
  induction bs with
  | nil => rfl
  | cons b bs ih => rw [List.map_cons, bools, ih]; rfl
theorem all_map {bs : List Bool} {P : PyData → Prop} : OkO (allD (.list (bs.map .bool))) P ↔ P (.bool (bs.all id)) := by
  show OkO ((bools (bs.map .bool)).map fun bs => .bool (bs.all id)) P ↔ _
  rw [bools_map]
  exact oko_some
theorem all_of {ds : List PyData} {f : PyData → Bool} {P : PyData → Prop} : OkO (allD (.list (ds.map fun d => .bool (f d)))) P ↔ P (.bool (ds.all f)) := by
  have e : (ds.map fun d => PyData.bool (f d)) = (ds.map f).map .bool := by rw [List.map_map]; rfl
  rw [e, all_map, List.all_map]
  rfl
theorem all_true {ds : List PyData} {P : PyData → Prop} : OkO (allD (.list ((ds.filter fun _ => true).map fun _ => .bool true))) P ↔ P (.bool true) := by
  rw [all_of (f := fun _ => true)]
  have e : ((ds.filter fun _ => true).all fun _ => true) = true := by rw [List.all_eq_true]; exact fun _ _ => rfl
  rw [e]
theorem sheet_eq {zs : List Int} {st : Sto} (h : Sheet zs) : g_sheet_fits [.d (rowD zs)] st = some (.d (.bool true), st) := by
  obtain ⟨h1, h2, h3⟩ := h
  refine ok_eq ?_
  unfold g_sheet_fits rowD
  simp only [Ss.ev, S.ev, Sm.ev, T.ev, T.evF, EF.B.ev, I.ev, As.ev, Ws.ev, O.ev, BOp.d, COp.d, F1.d, ok_seq, ok_ifS, ok_set1, ok_setS, ok_ret, ok_retn, ok_drop, ok_par, ok_putX, ok_new, ok_retc, ok_setc, ok_skip, ok_brk, ok_cnt, then_nx, then_rt, then_bk, then_ct, ok_rdV, ok_bin2, ok_un1, ok_k, ok_asB, isB_b, ok_andX, ok_orX, ok_notX, ok_andB, ok_orB, ok_notB, ok_iteX, ok_nilX, ok_consX, ok_tupX, ok_fitX, ok_lsX, ok_cixX, ok_rdC, contD_c, contD_s, at3_0, at3_1, at3_2, ix3_0, ix3_1, ix3_2, isI_i, ok_someO, ok_noO, ok_sliX, ok_csliX, ok_rdCV, ok_tyX, ok_isiX, ok_chn, ok_nilW, ok_consW, ok_datW, ok_celW, ok_callX, isD_d, isP_p, ok_appX, ok_bind, ok_pure, ok_ofOpt, oko_some, oko_none, slotD_d, slotC_c, o_add, o_sub, o_mul, o_fdiv, o_pow, o_mod, o_lt, o_le, o_gt, o_ge, o_eq, o_ne, o_int, List.getElem?_cons_zero, List.getElem?_cons_succ, List.set_cons_zero, List.set_cons_succ, Nat.reduceAdd, List.set_cons_zero, exists_eq_left, exists_eq_left', end_d, end_nx, end_c, Option.some.injEq, decide_eq_true_eq, decide_eq_false_iff_not, ok_anyI, seq_t, seq_l, ok_rng1, ok_enum, ok_lcF, ok_forS, put_nm, put_tp2, put_tp3, wipeR, startR, List.map_cons, List.map_nil, List.length_cons, List.length_nil, List.replicate, List.cons_append, List.nil_append, true_implies, false_implies, forall_const, and_true, true_and, and_false, false_and, Bool.false_eq_true, Bool.true_eq_false, Bool.not_true, Bool.not_false, Bool.not_eq_true', Bool.not_eq_false', Bool.not_eq_eq_eq_not, isi_int, isi_intb, if_true, Bool.if_true_left, ok_callKX, o_catt, o_catl, o_slit, o_slil, ok_fn, turn_nx, turn_rt, ok_some, b_sheet_fits, takeR, len_t, ty_t, between_eq, List.length_map]
  refine ⟨fun h => absurd trivial h, fun h => absurd ⟨by omega, by omega⟩ h, fun _ => ⟨by have := line8; omega, comp_pure (tb := fun _ => true) (e := fun _ => .bool true) (fun d hd => ?_) ?_⟩⟩
  · obtain ⟨z, hz, rfl⟩ := List.mem_map.mp hd
    have := h3 z hz
    simp only [Ss.ev, S.ev, Sm.ev, T.ev, T.evF, EF.B.ev, I.ev, As.ev, Ws.ev, O.ev, BOp.d, COp.d, F1.d, ok_seq, ok_ifS, ok_set1, ok_setS, ok_ret, ok_retn, ok_drop, ok_par, ok_putX, ok_new, ok_retc, ok_setc, ok_skip, ok_brk, ok_cnt, then_nx, then_rt, then_bk, then_ct, ok_rdV, ok_bin2, ok_un1, ok_k, ok_asB, isB_b, ok_andX, ok_orX, ok_notX, ok_andB, ok_orB, ok_notB, ok_iteX, ok_nilX, ok_consX, ok_tupX, ok_fitX, ok_lsX, ok_cixX, ok_rdC, contD_c, contD_s, at3_0, at3_1, at3_2, ix3_0, ix3_1, ix3_2, isI_i, ok_someO, ok_noO, ok_sliX, ok_csliX, ok_rdCV, ok_tyX, ok_isiX, ok_chn, ok_nilW, ok_consW, ok_datW, ok_celW, ok_callX, isD_d, isP_p, ok_appX, ok_bind, ok_pure, ok_ofOpt, oko_some, oko_none, slotD_d, slotC_c, o_add, o_sub, o_mul, o_fdiv, o_pow, o_mod, o_lt, o_le, o_gt, o_ge, o_eq, o_ne, o_int, List.getElem?_cons_zero, List.getElem?_cons_succ, List.set_cons_zero, List.set_cons_succ, Nat.reduceAdd, List.set_cons_zero, exists_eq_left, exists_eq_left', end_d, end_nx, end_c, Option.some.injEq, decide_eq_true_eq, decide_eq_false_iff_not, ok_anyI, seq_t, seq_l, ok_rng1, ok_enum, ok_lcF, ok_forS, put_nm, put_tp2, put_tp3, wipeR, startR, List.map_cons, List.map_nil, List.length_cons, List.length_nil, List.replicate, List.cons_append, List.nil_append, true_implies, false_implies, forall_const, and_true, true_and, and_false, false_and, Bool.false_eq_true, Bool.true_eq_false, Bool.not_true, Bool.not_false, Bool.not_eq_true', Bool.not_eq_false', Bool.not_eq_eq_eq_not, isi_int, isi_intb, if_true, Bool.if_true_left, ok_callKX, o_catt, o_catl, o_slit, o_slil, ok_fn, turn_nx, turn_rt, ok_some, between_eq]
    simp [this]
  · simp only [Ss.ev, S.ev, Sm.ev, T.ev, T.evF, EF.B.ev, I.ev, As.ev, Ws.ev, O.ev, BOp.d, COp.d, F1.d, ok_seq, ok_ifS, ok_set1, ok_setS, ok_ret, ok_retn, ok_drop, ok_par, ok_putX, ok_new, ok_retc, ok_setc, ok_skip, ok_brk, ok_cnt, then_nx, then_rt, then_bk, then_ct, ok_rdV, ok_bin2, ok_un1, ok_k, ok_asB, isB_b, ok_andX, ok_orX, ok_notX, ok_andB, ok_orB, ok_notB, ok_iteX, ok_nilX, ok_consX, ok_tupX, ok_fitX, ok_lsX, ok_cixX, ok_rdC, contD_c, contD_s, at3_0, at3_1, at3_2, ix3_0, ix3_1, ix3_2, isI_i, ok_someO, ok_noO, ok_sliX, ok_csliX, ok_rdCV, ok_tyX, ok_isiX, ok_chn, ok_nilW, ok_consW, ok_datW, ok_celW, ok_callX, isD_d, isP_p, ok_appX, ok_bind, ok_pure, ok_ofOpt, oko_some, oko_none, slotD_d, slotC_c, o_add, o_sub, o_mul, o_fdiv, o_pow, o_mod, o_lt, o_le, o_gt, o_ge, o_eq, o_ne, o_int, List.getElem?_cons_zero, List.getElem?_cons_succ, List.set_cons_zero, List.set_cons_succ, Nat.reduceAdd, List.set_cons_zero, exists_eq_left, exists_eq_left', end_d, end_nx, end_c, Option.some.injEq, decide_eq_true_eq, decide_eq_false_iff_not, ok_anyI, seq_t, seq_l, ok_rng1, ok_enum, ok_lcF, ok_forS, put_nm, put_tp2, put_tp3, wipeR, startR, List.map_cons, List.map_nil, List.length_cons, List.length_nil, List.replicate, List.cons_append, List.nil_append, true_implies, false_implies, forall_const, and_true, true_and, and_false, false_and, Bool.false_eq_true, Bool.true_eq_false, Bool.not_true, Bool.not_false, Bool.not_eq_true', Bool.not_eq_false', Bool.not_eq_eq_eq_not, isi_int, isi_intb, if_true, Bool.if_true_left, ok_callKX, o_catt, o_catl, o_slit, o_slil, ok_fn, turn_nx, turn_rt, ok_some, all_true, takeR]
theorem need_sheet_eq {zs : List Int} {st : Sto} (h : Sheet zs) : g_need_sheet [.d (rowD zs)] st = some (.d .none, st) := by
  refine ok_eq ?_
  unfold g_need_sheet
  simp only [Ss.ev, S.ev, Sm.ev, T.ev, T.evF, EF.B.ev, I.ev, As.ev, Ws.ev, O.ev, BOp.d, COp.d, F1.d, ok_seq, ok_ifS, ok_set1, ok_setS, ok_ret, ok_retn, ok_drop, ok_par, ok_putX, ok_new, ok_retc, ok_setc, ok_skip, ok_brk, ok_cnt, then_nx, then_rt, then_bk, then_ct, ok_rdV, ok_bin2, ok_un1, ok_k, ok_asB, isB_b, ok_andX, ok_orX, ok_notX, ok_andB, ok_orB, ok_notB, ok_iteX, ok_nilX, ok_consX, ok_tupX, ok_fitX, ok_lsX, ok_cixX, ok_rdC, contD_c, contD_s, at3_0, at3_1, at3_2, ix3_0, ix3_1, ix3_2, isI_i, ok_someO, ok_noO, ok_sliX, ok_csliX, ok_rdCV, ok_tyX, ok_isiX, ok_chn, ok_nilW, ok_consW, ok_datW, ok_celW, ok_callX, isD_d, isP_p, ok_appX, ok_bind, ok_pure, ok_ofOpt, oko_some, oko_none, slotD_d, slotC_c, o_add, o_sub, o_mul, o_fdiv, o_pow, o_mod, o_lt, o_le, o_gt, o_ge, o_eq, o_ne, o_int, List.getElem?_cons_zero, List.getElem?_cons_succ, List.set_cons_zero, List.set_cons_succ, Nat.reduceAdd, List.set_cons_zero, exists_eq_left, exists_eq_left', end_d, end_nx, end_c, Option.some.injEq, decide_eq_true_eq, decide_eq_false_iff_not, ok_anyI, seq_t, seq_l, ok_rng1, ok_enum, ok_lcF, ok_forS, put_nm, put_tp2, put_tp3, wipeR, startR, List.map_cons, List.map_nil, List.length_cons, List.length_nil, List.replicate, List.cons_append, List.nil_append, true_implies, false_implies, forall_const, and_true, true_and, and_false, false_and, Bool.false_eq_true, Bool.true_eq_false, Bool.not_true, Bool.not_false, Bool.not_eq_true', Bool.not_eq_false', Bool.not_eq_eq_eq_not, isi_int, isi_intb, if_true, Bool.if_true_left, ok_callKX, o_catt, o_catl, o_slit, o_slil, ok_fn, turn_nx, turn_rt, ok_some, b_need_sheet, sheet_eq h, takeR]
def PFits (zs : List Int) (ps : List (Option Int)) : Prop := ps.length = zs.length ∧ ∀ (i : Nat) (x z : Int), ps[i]? = some (some x) → zs[i]? = some z → 0 ≤ x ∧ x < z
theorem entry_eq {zs : List Int} {i : Nat} {x z : Int} {st : Sto} (hz : zs[i]? = some z) (h1 : 0 ≤ x) (h2 : x < z) : g_entry_fits [.d (rowD zs), .d (.int (i : Int)), .d (.int x)] st = some (.d (.bool true), st) := by
  refine ok_eq ?_
  have e : (zs.map PyData.int)[i]? = some (.int z) := by rw [List.getElem?_map, hz]; rfl
  unfold g_entry_fits rowD
  simp only [Ss.ev, S.ev, Sm.ev, T.ev, T.evF, EF.B.ev, I.ev, As.ev, Ws.ev, O.ev, BOp.d, COp.d, F1.d, ok_seq, ok_ifS, ok_set1, ok_setS, ok_ret, ok_retn, ok_drop, ok_par, ok_putX, ok_new, ok_retc, ok_setc, ok_skip, ok_brk, ok_cnt, then_nx, then_rt, then_bk, then_ct, ok_rdV, ok_bin2, ok_un1, ok_k, ok_asB, isB_b, ok_andX, ok_orX, ok_notX, ok_andB, ok_orB, ok_notB, ok_iteX, ok_nilX, ok_consX, ok_tupX, ok_fitX, ok_lsX, ok_cixX, ok_rdC, contD_c, contD_s, at3_0, at3_1, at3_2, ix3_0, ix3_1, ix3_2, isI_i, ok_someO, ok_noO, ok_sliX, ok_csliX, ok_rdCV, ok_tyX, ok_isiX, ok_chn, ok_nilW, ok_consW, ok_datW, ok_celW, ok_callX, isD_d, isP_p, ok_appX, ok_bind, ok_pure, ok_ofOpt, oko_some, oko_none, slotD_d, slotC_c, o_add, o_sub, o_mul, o_fdiv, o_pow, o_mod, o_lt, o_le, o_gt, o_ge, o_eq, o_ne, o_int, List.getElem?_cons_zero, List.getElem?_cons_succ, List.set_cons_zero, List.set_cons_succ, Nat.reduceAdd, List.set_cons_zero, exists_eq_left, exists_eq_left', end_d, end_nx, end_c, Option.some.injEq, decide_eq_true_eq, decide_eq_false_iff_not, ok_anyI, seq_t, seq_l, ok_rng1, ok_enum, ok_lcF, ok_forS, put_nm, put_tp2, put_tp3, wipeR, startR, List.map_cons, List.map_nil, List.length_cons, List.length_nil, List.replicate, List.cons_append, List.nil_append, true_implies, false_implies, forall_const, and_true, true_and, and_false, false_and, Bool.false_eq_true, Bool.true_eq_false, Bool.not_true, Bool.not_false, Bool.not_eq_true', Bool.not_eq_false', Bool.not_eq_eq_eq_not, isi_int, isi_intb, if_true, Bool.if_true_left, ok_callKX, o_catt, o_catl, o_slit, o_slil, ok_fn, turn_nx, turn_rt, ok_some, b_entry_fits, takeR, o_ixt e, between_eq]
  have : x ≤ z - 1 := by omega
  simp [h1, this]
theorem enum_mem {ds : List PyData} {d : PyData} (h : d ∈ enumD ds) : ∃ i x, ds[i]? = some x ∧ d = .tuple [.int (i : Nat), x] := by
  obtain ⟨i, hi, e⟩ := List.getElem_of_mem h
  unfold enumD at hi e
  rw [List.length_mapIdx] at hi
  rw [List.getElem_mapIdx] at e
  exact ⟨i, ds[i], List.getElem?_eq_getElem hi, e.symm⟩
theorem part_eq {zs : List Int} {ps : List (Option Int)} {st : Sto} (hz : Sheet zs) (h : PFits zs ps) : g_part_fits [.d (rowD zs), .d (partD ps)] st = some (.d (.bool true), st) := by
  refine ok_eq ?_
  have hl : (ps.length : Int) = zs.length := by rw [h.1]
  unfold g_part_fits partD
  have er : rowD zs = .tuple (zs.map .int) := rfl
  simp only [Ss.ev, S.ev, Sm.ev, T.ev, T.evF, EF.B.ev, I.ev, As.ev, Ws.ev, O.ev, BOp.d, COp.d, F1.d, ok_seq, ok_ifS, ok_set1, ok_setS, ok_ret, ok_retn, ok_drop, ok_par, ok_putX, ok_new, ok_retc, ok_setc, ok_skip, ok_brk, ok_cnt, then_nx, then_rt, then_bk, then_ct, ok_rdV, ok_bin2, ok_un1, ok_k, ok_asB, isB_b, ok_andX, ok_orX, ok_notX, ok_andB, ok_orB, ok_notB, ok_iteX, ok_nilX, ok_consX, ok_tupX, ok_fitX, ok_lsX, ok_cixX, ok_rdC, contD_c, contD_s, at3_0, at3_1, at3_2, ix3_0, ix3_1, ix3_2, isI_i, ok_someO, ok_noO, ok_sliX, ok_csliX, ok_rdCV, ok_tyX, ok_isiX, ok_chn, ok_nilW, ok_consW, ok_datW, ok_celW, ok_callX, isD_d, isP_p, ok_appX, ok_bind, ok_pure, ok_ofOpt, oko_some, oko_none, slotD_d, slotC_c, o_add, o_sub, o_mul, o_fdiv, o_pow, o_mod, o_lt, o_le, o_gt, o_ge, o_eq, o_ne, o_int, List.getElem?_cons_zero, List.getElem?_cons_succ, List.set_cons_zero, List.set_cons_succ, Nat.reduceAdd, List.set_cons_zero, exists_eq_left, exists_eq_left', end_d, end_nx, end_c, Option.some.injEq, decide_eq_true_eq, decide_eq_false_iff_not, ok_anyI, seq_t, seq_l, ok_rng1, ok_enum, ok_lcF, ok_forS, put_nm, put_tp2, put_tp3, wipeR, startR, List.map_cons, List.map_nil, List.length_cons, List.length_nil, List.replicate, List.cons_append, List.nil_append, true_implies, false_implies, forall_const, and_true, true_and, and_false, false_and, Bool.false_eq_true, Bool.true_eq_false, Bool.not_true, Bool.not_false, Bool.not_eq_true', Bool.not_eq_false', Bool.not_eq_eq_eq_not, isi_int, isi_intb, if_true, Bool.if_true_left, ok_callKX, o_catt, o_catl, o_slit, o_slil, ok_fn, turn_nx, turn_rt, ok_some, b_part_fits, takeR, len_t, ty_t, er, List.length_map, hl]
  rw [← er]
  refine ⟨fun h => absurd trivial h, fun h => absurd trivial h, by rw [enumD_len, List.length_map, h.1]; have := hz.2.1; have := line8; omega, comp_pure (tb := fun _ => true) (e := fun _ => .bool true) (fun d hd => ?_) ?_⟩
  · obtain ⟨i, x, hx, rfl⟩ := enum_mem hd
    rw [List.getElem?_map] at hx
    cases hp : ps[i]? with
    | none => rw [hp] at hx; cases hx
    | some o =>
      rw [hp] at hx
      cases hx
      cases o with
      | none => simp only [Ss.ev, S.ev, Sm.ev, T.ev, T.evF, EF.B.ev, I.ev, As.ev, Ws.ev, O.ev, BOp.d, COp.d, F1.d, ok_seq, ok_ifS, ok_set1, ok_setS, ok_ret, ok_retn, ok_drop, ok_par, ok_putX, ok_new, ok_retc, ok_setc, ok_skip, ok_brk, ok_cnt, then_nx, then_rt, then_bk, then_ct, ok_rdV, ok_bin2, ok_un1, ok_k, ok_asB, isB_b, ok_andX, ok_orX, ok_notX, ok_andB, ok_orB, ok_notB, ok_iteX, ok_nilX, ok_consX, ok_tupX, ok_fitX, ok_lsX, ok_cixX, ok_rdC, contD_c, contD_s, at3_0, at3_1, at3_2, ix3_0, ix3_1, ix3_2, isI_i, ok_someO, ok_noO, ok_sliX, ok_csliX, ok_rdCV, ok_tyX, ok_isiX, ok_chn, ok_nilW, ok_consW, ok_datW, ok_celW, ok_callX, isD_d, isP_p, ok_appX, ok_bind, ok_pure, ok_ofOpt, oko_some, oko_none, slotD_d, slotC_c, o_add, o_sub, o_mul, o_fdiv, o_pow, o_mod, o_lt, o_le, o_gt, o_ge, o_eq, o_ne, o_int, List.getElem?_cons_zero, List.getElem?_cons_succ, List.set_cons_zero, List.set_cons_succ, Nat.reduceAdd, List.set_cons_zero, exists_eq_left, exists_eq_left', end_d, end_nx, end_c, Option.some.injEq, decide_eq_true_eq, decide_eq_false_iff_not, ok_anyI, seq_t, seq_l, ok_rng1, ok_enum, ok_lcF, ok_forS, put_nm, put_tp2, put_tp3, wipeR, startR, List.map_cons, List.map_nil, List.length_cons, List.length_nil, List.replicate, List.cons_append, List.nil_append, true_implies, false_implies, forall_const, and_true, true_and, and_false, false_and, Bool.false_eq_true, Bool.true_eq_false, Bool.not_true, Bool.not_false, Bool.not_eq_true', Bool.not_eq_false', Bool.not_eq_eq_eq_not, isi_int, isi_intb, if_true, Bool.if_true_left, ok_callKX, o_catt, o_catl, o_slit, o_slil, ok_fn, turn_nx, turn_rt, ok_some, optD, o_isnn]
      | some x =>
        have hi : i < zs.length := by rw [← h.1]; exact (List.getElem?_eq_some_iff.mp hp).1
        obtain ⟨h1, h2⟩ := h.2 i x _ hp (List.getElem?_eq_getElem hi)
        simp only [Ss.ev, S.ev, Sm.ev, T.ev, T.evF, EF.B.ev, I.ev, As.ev, Ws.ev, O.ev, BOp.d, COp.d, F1.d, ok_seq, ok_ifS, ok_set1, ok_setS, ok_ret, ok_retn, ok_drop, ok_par, ok_putX, ok_new, ok_retc, ok_setc, ok_skip, ok_brk, ok_cnt, then_nx, then_rt, then_bk, then_ct, ok_rdV, ok_bin2, ok_un1, ok_k, ok_asB, isB_b, ok_andX, ok_orX, ok_notX, ok_andB, ok_orB, ok_notB, ok_iteX, ok_nilX, ok_consX, ok_tupX, ok_fitX, ok_lsX, ok_cixX, ok_rdC, contD_c, contD_s, at3_0, at3_1, at3_2, ix3_0, ix3_1, ix3_2, isI_i, ok_someO, ok_noO, ok_sliX, ok_csliX, ok_rdCV, ok_tyX, ok_isiX, ok_chn, ok_nilW, ok_consW, ok_datW, ok_celW, ok_callX, isD_d, isP_p, ok_appX, ok_bind, ok_pure, ok_ofOpt, oko_some, oko_none, slotD_d, slotC_c, o_add, o_sub, o_mul, o_fdiv, o_pow, o_mod, o_lt, o_le, o_gt, o_ge, o_eq, o_ne, o_int, List.getElem?_cons_zero, List.getElem?_cons_succ, List.set_cons_zero, List.set_cons_succ, Nat.reduceAdd, List.set_cons_zero, exists_eq_left, exists_eq_left', end_d, end_nx, end_c, Option.some.injEq, decide_eq_true_eq, decide_eq_false_iff_not, ok_anyI, seq_t, seq_l, ok_rng1, ok_enum, ok_lcF, ok_forS, put_nm, put_tp2, put_tp3, wipeR, startR, List.map_cons, List.map_nil, List.length_cons, List.length_nil, List.replicate, List.cons_append, List.nil_append, true_implies, false_implies, forall_const, and_true, true_and, and_false, false_and, Bool.false_eq_true, Bool.true_eq_false, Bool.not_true, Bool.not_false, Bool.not_eq_true', Bool.not_eq_false', Bool.not_eq_eq_eq_not, isi_int, isi_intb, if_true, Bool.if_true_left, ok_callKX, o_catt, o_catl, o_slit, o_slil, ok_fn, turn_nx, turn_rt, ok_some, optD, o_isin, entry_eq (List.getElem?_eq_getElem hi) h1 h2]
  · simp only [Ss.ev, S.ev, Sm.ev, T.ev, T.evF, EF.B.ev, I.ev, As.ev, Ws.ev, O.ev, BOp.d, COp.d, F1.d, ok_seq, ok_ifS, ok_set1, ok_setS, ok_ret, ok_retn, ok_drop, ok_par, ok_putX, ok_new, ok_retc, ok_setc, ok_skip, ok_brk, ok_cnt, then_nx, then_rt, then_bk, then_ct, ok_rdV, ok_bin2, ok_un1, ok_k, ok_asB, isB_b, ok_andX, ok_orX, ok_notX, ok_andB, ok_orB, ok_notB, ok_iteX, ok_nilX, ok_consX, ok_tupX, ok_fitX, ok_lsX, ok_cixX, ok_rdC, contD_c, contD_s, at3_0, at3_1, at3_2, ix3_0, ix3_1, ix3_2, isI_i, ok_someO, ok_noO, ok_sliX, ok_csliX, ok_rdCV, ok_tyX, ok_isiX, ok_chn, ok_nilW, ok_consW, ok_datW, ok_celW, ok_callX, isD_d, isP_p, ok_appX, ok_bind, ok_pure, ok_ofOpt, oko_some, oko_none, slotD_d, slotC_c, o_add, o_sub, o_mul, o_fdiv, o_pow, o_mod, o_lt, o_le, o_gt, o_ge, o_eq, o_ne, o_int, List.getElem?_cons_zero, List.getElem?_cons_succ, List.set_cons_zero, List.set_cons_succ, Nat.reduceAdd, List.set_cons_zero, exists_eq_left, exists_eq_left', end_d, end_nx, end_c, Option.some.injEq, decide_eq_true_eq, decide_eq_false_iff_not, ok_anyI, seq_t, seq_l, ok_rng1, ok_enum, ok_lcF, ok_forS, put_nm, put_tp2, put_tp3, wipeR, startR, List.map_cons, List.map_nil, List.length_cons, List.length_nil, List.replicate, List.cons_append, List.nil_append, true_implies, false_implies, forall_const, and_true, true_and, and_false, false_and, Bool.false_eq_true, Bool.true_eq_false, Bool.not_true, Bool.not_false, Bool.not_eq_true', Bool.not_eq_false', Bool.not_eq_eq_eq_not, isi_int, isi_intb, if_true, Bool.if_true_left, ok_callKX, o_catt, o_catl, o_slit, o_slil, ok_fn, turn_nx, turn_rt, ok_some, all_true, takeR]
end K06

set_option Elab.async false
set_option linter.all false
set_option maxRecDepth 100000
set_option maxHeartbeats 2000000
namespace K06
open PySem PySem.Spec PyProof.Rows L2 EF
def Fits (zs xs : List Int) : Prop := PFits zs (xs.map some)
theorem row_part {xs : List Int} : rowD xs = partD (xs.map some) := by
  unfold rowD partD
  rw [List.map_map]
  rfl
theorem filling_eq {zs xs : List Int} {st : Sto} (hz : Sheet zs) (h : Fits zs xs) : g_filling_fits [.d (rowD zs), .d (rowD xs)] st = some (.d (.bool true), st) := by
  refine ok_eq ?_
  have e := part_eq (st := st) hz h
  rw [← row_part] at e
  unfold g_filling_fits
  simp only [Ss.ev, S.ev, Sm.ev, T.ev, T.evF, EF.B.ev, I.ev, As.ev, Ws.ev, O.ev, BOp.d, COp.d, F1.d, ok_seq, ok_ifS, ok_set1, ok_setS, ok_ret, ok_retn, ok_drop, ok_par, ok_putX, ok_new, ok_retc, ok_setc, ok_skip, ok_brk, ok_cnt, then_nx, then_rt, then_bk, then_ct, ok_rdV, ok_bin2, ok_un1, ok_k, ok_asB, isB_b, ok_andX, ok_orX, ok_notX, ok_andB, ok_orB, ok_notB, ok_iteX, ok_nilX, ok_consX, ok_tupX, ok_fitX, ok_lsX, ok_cixX, ok_rdC, contD_c, contD_s, at3_0, at3_1, at3_2, ix3_0, ix3_1, ix3_2, isI_i, ok_someO, ok_noO, ok_sliX, ok_csliX, ok_rdCV, ok_tyX, ok_isiX, ok_chn, ok_nilW, ok_consW, ok_datW, ok_celW, ok_callX, isD_d, isP_p, ok_appX, ok_bind, ok_pure, ok_ofOpt, oko_some, oko_none, slotD_d, slotC_c, o_add, o_sub, o_mul, o_fdiv, o_pow, o_mod, o_lt, o_le, o_gt, o_ge, o_eq, o_ne, o_int, List.getElem?_cons_zero, List.getElem?_cons_succ, List.set_cons_zero, List.set_cons_succ, Nat.reduceAdd, List.set_cons_zero, exists_eq_left, exists_eq_left', end_d, end_nx, end_c, Option.some.injEq, decide_eq_true_eq, decide_eq_false_iff_not, ok_anyI, seq_t, seq_l, ok_rng1, ok_enum, ok_lcF, ok_forS, put_nm, put_tp2, put_tp3, wipeR, startR, List.map_cons, List.map_nil, List.length_cons, List.length_nil, List.replicate, List.cons_append, List.nil_append, true_implies, false_implies, forall_const, and_true, true_and, and_false, false_and, Bool.false_eq_true, Bool.true_eq_false, Bool.not_true, Bool.not_false, Bool.not_eq_true', Bool.not_eq_false', Bool.not_eq_eq_eq_not, isi_int, isi_intb, if_true, Bool.if_true_left, ok_callKX, o_catt, o_catl, o_slit, o_slil, ok_fn, turn_nx, turn_rt, ok_some, b_filling_fits, takeR, e]
  unfold rowD
  simp only [Ss.ev, S.ev, Sm.ev, T.ev, T.evF, EF.B.ev, I.ev, As.ev, Ws.ev, O.ev, BOp.d, COp.d, F1.d, ok_seq, ok_ifS, ok_set1, ok_setS, ok_ret, ok_retn, ok_drop, ok_par, ok_putX, ok_new, ok_retc, ok_setc, ok_skip, ok_brk, ok_cnt, then_nx, then_rt, then_bk, then_ct, ok_rdV, ok_bin2, ok_un1, ok_k, ok_asB, isB_b, ok_andX, ok_orX, ok_notX, ok_andB, ok_orB, ok_notB, ok_iteX, ok_nilX, ok_consX, ok_tupX, ok_fitX, ok_lsX, ok_cixX, ok_rdC, contD_c, contD_s, at3_0, at3_1, at3_2, ix3_0, ix3_1, ix3_2, isI_i, ok_someO, ok_noO, ok_sliX, ok_csliX, ok_rdCV, ok_tyX, ok_isiX, ok_chn, ok_nilW, ok_consW, ok_datW, ok_celW, ok_callX, isD_d, isP_p, ok_appX, ok_bind, ok_pure, ok_ofOpt, oko_some, oko_none, slotD_d, slotC_c, o_add, o_sub, o_mul, o_fdiv, o_pow, o_mod, o_lt, o_le, o_gt, o_ge, o_eq, o_ne, o_int, List.getElem?_cons_zero, List.getElem?_cons_succ, List.set_cons_zero, List.set_cons_succ, Nat.reduceAdd, List.set_cons_zero, exists_eq_left, exists_eq_left', end_d, end_nx, end_c, Option.some.injEq, decide_eq_true_eq, decide_eq_false_iff_not, ok_anyI, seq_t, seq_l, ok_rng1, ok_enum, ok_lcF, ok_forS, put_nm, put_tp2, put_tp3, wipeR, startR, List.map_cons, List.map_nil, List.length_cons, List.length_nil, List.replicate, List.cons_append, List.nil_append, true_implies, false_implies, forall_const, and_true, true_and, and_false, false_and, Bool.false_eq_true, Bool.true_eq_false, Bool.not_true, Bool.not_false, Bool.not_eq_true', Bool.not_eq_false', Bool.not_eq_eq_eq_not, isi_int, isi_intb, if_true, Bool.if_true_left, ok_callKX, o_catt, o_catl, o_slit, o_slil, ok_fn, turn_nx, turn_rt, ok_some, o_nin, takeR]
theorem need_filling_eq {zs xs : List Int} {st : Sto} (hz : Sheet zs) (h : Fits zs xs) : g_need_filling [.d (rowD zs), .d (rowD xs)] st = some (.d .none, st) := by
  refine ok_eq ?_
  unfold g_need_filling
  simp only [Ss.ev, S.ev, Sm.ev, T.ev, T.evF, EF.B.ev, I.ev, As.ev, Ws.ev, O.ev, BOp.d, COp.d, F1.d, ok_seq, ok_ifS, ok_set1, ok_setS, ok_ret, ok_retn, ok_drop, ok_par, ok_putX, ok_new, ok_retc, ok_setc, ok_skip, ok_brk, ok_cnt, then_nx, then_rt, then_bk, then_ct, ok_rdV, ok_bin2, ok_un1, ok_k, ok_asB, isB_b, ok_andX, ok_orX, ok_notX, ok_andB, ok_orB, ok_notB, ok_iteX, ok_nilX, ok_consX, ok_tupX, ok_fitX, ok_lsX, ok_cixX, ok_rdC, contD_c, contD_s, at3_0, at3_1, at3_2, ix3_0, ix3_1, ix3_2, isI_i, ok_someO, ok_noO, ok_sliX, ok_csliX, ok_rdCV, ok_tyX, ok_isiX, ok_chn, ok_nilW, ok_consW, ok_datW, ok_celW, ok_callX, isD_d, isP_p, ok_appX, ok_bind, ok_pure, ok_ofOpt, oko_some, oko_none, slotD_d, slotC_c, o_add, o_sub, o_mul, o_fdiv, o_pow, o_mod, o_lt, o_le, o_gt, o_ge, o_eq, o_ne, o_int, List.getElem?_cons_zero, List.getElem?_cons_succ, List.set_cons_zero, List.set_cons_succ, Nat.reduceAdd, List.set_cons_zero, exists_eq_left, exists_eq_left', end_d, end_nx, end_c, Option.some.injEq, decide_eq_true_eq, decide_eq_false_iff_not, ok_anyI, seq_t, seq_l, ok_rng1, ok_enum, ok_lcF, ok_forS, put_nm, put_tp2, put_tp3, wipeR, startR, List.map_cons, List.map_nil, List.length_cons, List.length_nil, List.replicate, List.cons_append, List.nil_append, true_implies, false_implies, forall_const, and_true, true_and, and_false, false_and, Bool.false_eq_true, Bool.true_eq_false, Bool.not_true, Bool.not_false, Bool.not_eq_true', Bool.not_eq_false', Bool.not_eq_eq_eq_not, isi_int, isi_intb, if_true, Bool.if_true_left, ok_callKX, o_catt, o_catl, o_slit, o_slil, ok_fn, turn_nx, turn_rt, ok_some, b_need_filling, filling_eq hz h, takeR]
theorem need_part_eq {zs : List Int} {ps : List (Option Int)} {st : Sto} (hz : Sheet zs) (h : PFits zs ps) : g_need_part [.d (rowD zs), .d (partD ps)] st = some (.d .none, st) := by
  refine ok_eq ?_
  unfold g_need_part
  simp only [Ss.ev, S.ev, Sm.ev, T.ev, T.evF, EF.B.ev, I.ev, As.ev, Ws.ev, O.ev, BOp.d, COp.d, F1.d, ok_seq, ok_ifS, ok_set1, ok_setS, ok_ret, ok_retn, ok_drop, ok_par, ok_putX, ok_new, ok_retc, ok_setc, ok_skip, ok_brk, ok_cnt, then_nx, then_rt, then_bk, then_ct, ok_rdV, ok_bin2, ok_un1, ok_k, ok_asB, isB_b, ok_andX, ok_orX, ok_notX, ok_andB, ok_orB, ok_notB, ok_iteX, ok_nilX, ok_consX, ok_tupX, ok_fitX, ok_lsX, ok_cixX, ok_rdC, contD_c, contD_s, at3_0, at3_1, at3_2, ix3_0, ix3_1, ix3_2, isI_i, ok_someO, ok_noO, ok_sliX, ok_csliX, ok_rdCV, ok_tyX, ok_isiX, ok_chn, ok_nilW, ok_consW, ok_datW, ok_celW, ok_callX, isD_d, isP_p, ok_appX, ok_bind, ok_pure, ok_ofOpt, oko_some, oko_none, slotD_d, slotC_c, o_add, o_sub, o_mul, o_fdiv, o_pow, o_mod, o_lt, o_le, o_gt, o_ge, o_eq, o_ne, o_int, List.getElem?_cons_zero, List.getElem?_cons_succ, List.set_cons_zero, List.set_cons_succ, Nat.reduceAdd, List.set_cons_zero, exists_eq_left, exists_eq_left', end_d, end_nx, end_c, Option.some.injEq, decide_eq_true_eq, decide_eq_false_iff_not, ok_anyI, seq_t, seq_l, ok_rng1, ok_enum, ok_lcF, ok_forS, put_nm, put_tp2, put_tp3, wipeR, startR, List.map_cons, List.map_nil, List.length_cons, List.length_nil, List.replicate, List.cons_append, List.nil_append, true_implies, false_implies, forall_const, and_true, true_and, and_false, false_and, Bool.false_eq_true, Bool.true_eq_false, Bool.not_true, Bool.not_false, Bool.not_eq_true', Bool.not_eq_false', Bool.not_eq_eq_eq_not, isi_int, isi_intb, if_true, Bool.if_true_left, ok_callKX, o_catt, o_catl, o_slit, o_slil, ok_fn, turn_nx, turn_rt, ok_some, b_need_part, part_eq hz h, takeR]
/-! ### agrees -/
def ag : PyData → Bool
  | .tuple [.int x, .int y] => decide (y = x)
  | _ => true
theorem zip_mem : ∀ {xs : List Int} {ps : List (Option Int)} {d : PyData}, d ∈ zipD (xs.map .int) (ps.map optD) → ∃ (i : Nat) (x : Int) (o : Option Int), xs[i]? = some x ∧ ps[i]? = some o ∧ d = .tuple [.int x, optD o]
  | [], _, d, h => by simp [zipD] at h
  | _ :: _, [], d, h => by simp [zipD] at h
  | x :: xs, o :: ps, d, h => by
    simp only [List.map_cons, zipD, List.mem_cons] at h
    rcases h with rfl | h
    · exact ⟨0, x, o, rfl, rfl, rfl⟩
    · obtain ⟨i, x', o', h1, h2, h3⟩ := zip_mem h
      exact ⟨i + 1, x', o', by simpa using h1, by simpa using h2, h3⟩
theorem mem_zip : ∀ {xs : List Int} {ps : List (Option Int)} {i : Nat} {x : Int} {o : Option Int}, xs[i]? = some x → ps[i]? = some o → PyData.tuple [.int x, optD o] ∈ zipD (xs.map .int) (ps.map optD)
  | [], _, i, x, o, h, _ => by simp at h
  | _ :: _, [], i, x, o, _, h => by simp at h
  | x :: xs, o :: ps, 0, x', o', h, k => by
    simp at h k
    subst h k
    simp [zipD]
  | x :: xs, o :: ps, i + 1, x', o', h, k => by
    simp only [List.map_cons, zipD, List.mem_cons]
    exact .inr (mem_zip (by simpa using h) (by simpa using k))
def Agr (xs : List Int) (ps : List (Option Int)) : Prop := ∀ (i : Nat) (x y : Int), xs[i]? = some x → ps[i]? = some (some y) → y = x
theorem zip_len : ∀ {ds es : List PyData}, ds.length = es.length → (zipD ds es).length = ds.length
  | [], [], _ => rfl
  | _ :: _, [], h => by simp at h
  | [], _ :: _, h => by simp at h
  | d :: ds, e :: es, h => by simp only [zipD, List.length_cons]; rw [zip_len (by simpa using h)]
theorem agrees_ok {zs xs : List Int} {ps : List (Option Int)} {st : Sto} (hz : Sheet zs) (hx : Fits zs xs) (hp : PFits zs ps) : ∃ b : Bool, g_agrees [.d (rowD zs), .d (rowD xs), .d (partD ps)] st = some (.d (.bool b), st) ∧ (b = true ↔ Agr xs ps) := by
  refine ⟨(zipD (xs.map .int) (ps.map optD)).all ag, ok_eq ?_, ?_⟩
  · unfold g_agrees
    have e1 : rowD xs = .tuple (xs.map .int) := rfl
    have e2 : partD ps = .tuple (ps.map optD) := rfl
    simp only [Ss.ev, S.ev, Sm.ev, T.ev, T.evF, EF.B.ev, I.ev, As.ev, Ws.ev, O.ev, BOp.d, COp.d, F1.d, ok_seq, ok_ifS, ok_set1, ok_setS, ok_ret, ok_retn, ok_drop, ok_par, ok_putX, ok_new, ok_retc, ok_setc, ok_skip, ok_brk, ok_cnt, then_nx, then_rt, then_bk, then_ct, ok_rdV, ok_bin2, ok_un1, ok_k, ok_asB, isB_b, ok_andX, ok_orX, ok_notX, ok_andB, ok_orB, ok_notB, ok_iteX, ok_nilX, ok_consX, ok_tupX, ok_fitX, ok_lsX, ok_cixX, ok_rdC, contD_c, contD_s, at3_0, at3_1, at3_2, ix3_0, ix3_1, ix3_2, isI_i, ok_someO, ok_noO, ok_sliX, ok_csliX, ok_rdCV, ok_tyX, ok_isiX, ok_chn, ok_nilW, ok_consW, ok_datW, ok_celW, ok_callX, isD_d, isP_p, ok_appX, ok_bind, ok_pure, ok_ofOpt, oko_some, oko_none, slotD_d, slotC_c, o_add, o_sub, o_mul, o_fdiv, o_pow, o_mod, o_lt, o_le, o_gt, o_ge, o_eq, o_ne, o_int, List.getElem?_cons_zero, List.getElem?_cons_succ, List.set_cons_zero, List.set_cons_succ, Nat.reduceAdd, List.set_cons_zero, exists_eq_left, exists_eq_left', end_d, end_nx, end_c, Option.some.injEq, decide_eq_true_eq, decide_eq_false_iff_not, ok_anyI, seq_t, seq_l, ok_rng1, ok_enum, ok_lcF, ok_forS, put_nm, put_tp2, put_tp3, wipeR, startR, List.map_cons, List.map_nil, List.length_cons, List.length_nil, List.replicate, List.cons_append, List.nil_append, true_implies, false_implies, forall_const, and_true, true_and, and_false, false_and, Bool.false_eq_true, Bool.true_eq_false, Bool.not_true, Bool.not_false, Bool.not_eq_true', Bool.not_eq_false', Bool.not_eq_eq_eq_not, isi_int, isi_intb, if_true, Bool.if_true_left, ok_callKX, o_catt, o_catl, o_slit, o_slil, ok_fn, turn_nx, turn_rt, ok_some, b_agrees, need_sheet_eq hz, need_filling_eq hz hx, need_part_eq hz hp, takeR]
    refine ok_zip2 ?_
    simp only [Ss.ev, S.ev, Sm.ev, T.ev, T.evF, EF.B.ev, I.ev, As.ev, Ws.ev, O.ev, BOp.d, COp.d, F1.d, ok_seq, ok_ifS, ok_set1, ok_setS, ok_ret, ok_retn, ok_drop, ok_par, ok_putX, ok_new, ok_retc, ok_setc, ok_skip, ok_brk, ok_cnt, then_nx, then_rt, then_bk, then_ct, ok_rdV, ok_bin2, ok_un1, ok_k, ok_asB, isB_b, ok_andX, ok_orX, ok_notX, ok_andB, ok_orB, ok_notB, ok_iteX, ok_nilX, ok_consX, ok_tupX, ok_fitX, ok_lsX, ok_cixX, ok_rdC, contD_c, contD_s, at3_0, at3_1, at3_2, ix3_0, ix3_1, ix3_2, isI_i, ok_someO, ok_noO, ok_sliX, ok_csliX, ok_rdCV, ok_tyX, ok_isiX, ok_chn, ok_nilW, ok_consW, ok_datW, ok_celW, ok_callX, isD_d, isP_p, ok_appX, ok_bind, ok_pure, ok_ofOpt, oko_some, oko_none, slotD_d, slotC_c, o_add, o_sub, o_mul, o_fdiv, o_pow, o_mod, o_lt, o_le, o_gt, o_ge, o_eq, o_ne, o_int, List.getElem?_cons_zero, List.getElem?_cons_succ, List.set_cons_zero, List.set_cons_succ, Nat.reduceAdd, List.set_cons_zero, exists_eq_left, exists_eq_left', end_d, end_nx, end_c, Option.some.injEq, decide_eq_true_eq, decide_eq_false_iff_not, ok_anyI, seq_t, seq_l, ok_rng1, ok_enum, ok_lcF, ok_forS, put_nm, put_tp2, put_tp3, wipeR, startR, List.map_cons, List.map_nil, List.length_cons, List.length_nil, List.replicate, List.cons_append, List.nil_append, true_implies, false_implies, forall_const, and_true, true_and, and_false, false_and, Bool.false_eq_true, Bool.true_eq_false, Bool.not_true, Bool.not_false, Bool.not_eq_true', Bool.not_eq_false', Bool.not_eq_eq_eq_not, isi_int, isi_intb, if_true, Bool.if_true_left, ok_callKX, o_catt, o_catl, o_slit, o_slil, ok_fn, turn_nx, turn_rt, ok_some, e1, e2, isZ_t]
    refine ⟨?_, comp_pure (tb := fun _ => true) (e := fun d => .bool (ag d)) (fun d hd => ?_) ?_⟩
    · have h1 : xs.length = zs.length := by simpa using hx.1
      rw [zip_len (by rw [List.length_map, List.length_map, hp.1, h1]), List.length_map, h1]
      have := hz.2.1
      have := line8
      omega
    · obtain ⟨i, x, o, h1, h2, rfl⟩ := zip_mem hd
      cases o with
      | none => simp only [Ss.ev, S.ev, Sm.ev, T.ev, T.evF, EF.B.ev, I.ev, As.ev, Ws.ev, O.ev, BOp.d, COp.d, F1.d, ok_seq, ok_ifS, ok_set1, ok_setS, ok_ret, ok_retn, ok_drop, ok_par, ok_putX, ok_new, ok_retc, ok_setc, ok_skip, ok_brk, ok_cnt, then_nx, then_rt, then_bk, then_ct, ok_rdV, ok_bin2, ok_un1, ok_k, ok_asB, isB_b, ok_andX, ok_orX, ok_notX, ok_andB, ok_orB, ok_notB, ok_iteX, ok_nilX, ok_consX, ok_tupX, ok_fitX, ok_lsX, ok_cixX, ok_rdC, contD_c, contD_s, at3_0, at3_1, at3_2, ix3_0, ix3_1, ix3_2, isI_i, ok_someO, ok_noO, ok_sliX, ok_csliX, ok_rdCV, ok_tyX, ok_isiX, ok_chn, ok_nilW, ok_consW, ok_datW, ok_celW, ok_callX, isD_d, isP_p, ok_appX, ok_bind, ok_pure, ok_ofOpt, oko_some, oko_none, slotD_d, slotC_c, o_add, o_sub, o_mul, o_fdiv, o_pow, o_mod, o_lt, o_le, o_gt, o_ge, o_eq, o_ne, o_int, List.getElem?_cons_zero, List.getElem?_cons_succ, List.set_cons_zero, List.set_cons_succ, Nat.reduceAdd, List.set_cons_zero, exists_eq_left, exists_eq_left', end_d, end_nx, end_c, Option.some.injEq, decide_eq_true_eq, decide_eq_false_iff_not, ok_anyI, seq_t, seq_l, ok_rng1, ok_enum, ok_lcF, ok_forS, put_nm, put_tp2, put_tp3, wipeR, startR, List.map_cons, List.map_nil, List.length_cons, List.length_nil, List.replicate, List.cons_append, List.nil_append, true_implies, false_implies, forall_const, and_true, true_and, and_false, false_and, Bool.false_eq_true, Bool.true_eq_false, Bool.not_true, Bool.not_false, Bool.not_eq_true', Bool.not_eq_false', Bool.not_eq_eq_eq_not, isi_int, isi_intb, if_true, Bool.if_true_left, ok_callKX, o_catt, o_catl, o_slit, o_slil, ok_fn, turn_nx, turn_rt, ok_some, optD, o_isnn, ag]
      | some y =>
        simp only [Ss.ev, S.ev, Sm.ev, T.ev, T.evF, EF.B.ev, I.ev, As.ev, Ws.ev, O.ev, BOp.d, COp.d, F1.d, ok_seq, ok_ifS, ok_set1, ok_setS, ok_ret, ok_retn, ok_drop, ok_par, ok_putX, ok_new, ok_retc, ok_setc, ok_skip, ok_brk, ok_cnt, then_nx, then_rt, then_bk, then_ct, ok_rdV, ok_bin2, ok_un1, ok_k, ok_asB, isB_b, ok_andX, ok_orX, ok_notX, ok_andB, ok_orB, ok_notB, ok_iteX, ok_nilX, ok_consX, ok_tupX, ok_fitX, ok_lsX, ok_cixX, ok_rdC, contD_c, contD_s, at3_0, at3_1, at3_2, ix3_0, ix3_1, ix3_2, isI_i, ok_someO, ok_noO, ok_sliX, ok_csliX, ok_rdCV, ok_tyX, ok_isiX, ok_chn, ok_nilW, ok_consW, ok_datW, ok_celW, ok_callX, isD_d, isP_p, ok_appX, ok_bind, ok_pure, ok_ofOpt, oko_some, oko_none, slotD_d, slotC_c, o_add, o_sub, o_mul, o_fdiv, o_pow, o_mod, o_lt, o_le, o_gt, o_ge, o_eq, o_ne, o_int, List.getElem?_cons_zero, List.getElem?_cons_succ, List.set_cons_zero, List.set_cons_succ, Nat.reduceAdd, List.set_cons_zero, exists_eq_left, exists_eq_left', end_d, end_nx, end_c, Option.some.injEq, decide_eq_true_eq, decide_eq_false_iff_not, ok_anyI, seq_t, seq_l, ok_rng1, ok_enum, ok_lcF, ok_forS, put_nm, put_tp2, put_tp3, wipeR, startR, List.map_cons, List.map_nil, List.length_cons, List.length_nil, List.replicate, List.cons_append, List.nil_append, true_implies, false_implies, forall_const, and_true, true_and, and_false, false_and, Bool.false_eq_true, Bool.true_eq_false, Bool.not_true, Bool.not_false, Bool.not_eq_true', Bool.not_eq_false', Bool.not_eq_eq_eq_not, isi_int, isi_intb, if_true, Bool.if_true_left, ok_callKX, o_catt, o_catl, o_slit, o_slil, ok_fn, turn_nx, turn_rt, ok_some, optD, o_isin, ag]
    · rw [List.filter_eq_self.mpr fun _ _ => rfl]
      simp only [Ss.ev, S.ev, Sm.ev, T.ev, T.evF, EF.B.ev, I.ev, As.ev, Ws.ev, O.ev, BOp.d, COp.d, F1.d, ok_seq, ok_ifS, ok_set1, ok_setS, ok_ret, ok_retn, ok_drop, ok_par, ok_putX, ok_new, ok_retc, ok_setc, ok_skip, ok_brk, ok_cnt, then_nx, then_rt, then_bk, then_ct, ok_rdV, ok_bin2, ok_un1, ok_k, ok_asB, isB_b, ok_andX, ok_orX, ok_notX, ok_andB, ok_orB, ok_notB, ok_iteX, ok_nilX, ok_consX, ok_tupX, ok_fitX, ok_lsX, ok_cixX, ok_rdC, contD_c, contD_s, at3_0, at3_1, at3_2, ix3_0, ix3_1, ix3_2, isI_i, ok_someO, ok_noO, ok_sliX, ok_csliX, ok_rdCV, ok_tyX, ok_isiX, ok_chn, ok_nilW, ok_consW, ok_datW, ok_celW, ok_callX, isD_d, isP_p, ok_appX, ok_bind, ok_pure, ok_ofOpt, oko_some, oko_none, slotD_d, slotC_c, o_add, o_sub, o_mul, o_fdiv, o_pow, o_mod, o_lt, o_le, o_gt, o_ge, o_eq, o_ne, o_int, List.getElem?_cons_zero, List.getElem?_cons_succ, List.set_cons_zero, List.set_cons_succ, Nat.reduceAdd, List.set_cons_zero, exists_eq_left, exists_eq_left', end_d, end_nx, end_c, Option.some.injEq, decide_eq_true_eq, decide_eq_false_iff_not, ok_anyI, seq_t, seq_l, ok_rng1, ok_enum, ok_lcF, ok_forS, put_nm, put_tp2, put_tp3, wipeR, startR, List.map_cons, List.map_nil, List.length_cons, List.length_nil, List.replicate, List.cons_append, List.nil_append, true_implies, false_implies, forall_const, and_true, true_and, and_false, false_and, Bool.false_eq_true, Bool.true_eq_false, Bool.not_true, Bool.not_false, Bool.not_eq_true', Bool.not_eq_false', Bool.not_eq_eq_eq_not, isi_int, isi_intb, if_true, Bool.if_true_left, ok_callKX, o_catt, o_catl, o_slit, o_slil, ok_fn, turn_nx, turn_rt, ok_some, all_of, takeR]
  · rw [List.all_eq_true]
    constructor
    · intro h i x y h1 h2
      have q := h _ (mem_zip h1 h2)
      exact of_decide_eq_true q
    · intro h d hd
      obtain ⟨i, x, o, h1, h2, rfl⟩ := zip_mem hd
      cases o with
      | none => rfl
      | some y => exact decide_eq_true (h i x y h1 h2)
/-! ### mixed -/
def mix : List Int → List Int → List Int → List Int
  | x :: xs, y :: ys, z :: zs => (if x = y then x else z) :: mix xs ys zs
  | _, _, _ => []
theorem mix_len : ∀ {xs ys zs : List Int}, xs.length = ys.length → xs.length = zs.length → (mix xs ys zs).length = xs.length
  | [], _, _, _, _ => rfl
  | _ :: _, [], _, h, _ => by simp at h
  | _ :: _, _ :: _, [], _, h => by simp at h
  | x :: xs, y :: ys, z :: zs, h1, h2 => by
    simp only [mix, List.length_cons]
    rw [mix_len (by simpa using h1) (by simpa using h2)]
theorem mix_at : ∀ {xs ys zs : List Int} {i : Nat} {x y z : Int}, xs[i]? = some x → ys[i]? = some y → zs[i]? = some z → (mix xs ys zs)[i]? = some (if x = y then x else z)
  | [], _, _, i, x, y, z, h, _, _ => by simp at h
  | _ :: _, [], _, i, x, y, z, _, h, _ => by simp at h
  | _ :: _, _ :: _, [], i, x, y, z, _, _, h => by simp at h
  | a :: xs, b :: ys, c :: zs, 0, x, y, z, h, k, l => by
    simp at h k l
    subst h k l
    rfl
  | a :: xs, b :: ys, c :: zs, i + 1, x, y, z, h, k, l => by
    simp only [mix, List.getElem?_cons_succ]
    exact mix_at (by simpa using h) (by simpa using k) (by simpa using l)
def eMix : PyData → PyData
  | .tuple [.int x, .int y, .int z] => .int (if x = y then x else z)
  | _ => .none
theorem zip3_mem : ∀ {xs ys zs : List Int} {d : PyData}, d ∈ zip3D (xs.map .int) (ys.map .int) (zs.map .int) → ∃ x y z : Int, d = .tuple [.int x, .int y, .int z]
  | [], _, _, d, h => by simp [zip3D] at h
  | _ :: _, [], _, d, h => by simp [zip3D] at h
  | _ :: _, _ :: _, [], d, h => by simp [zip3D] at h
  | x :: xs, y :: ys, z :: zs, d, h => by
    simp only [List.map_cons, zip3D, List.mem_cons] at h
    rcases h with rfl | h
    · exact ⟨x, y, z, rfl⟩
    · exact zip3_mem h
theorem mix_map : ∀ {xs ys zs : List Int}, (zip3D (xs.map .int) (ys.map .int) (zs.map .int)).map eMix = (mix xs ys zs).map .int
  | [], _, _ => rfl
  | _ :: _, [], _ => rfl
  | _ :: _, _ :: _, [] => rfl
  | x :: xs, y :: ys, z :: zs => by
    simp only [List.map_cons, zip3D, mix]
    rw [mix_map]
    rfl
theorem tup_l {ds : List PyData} {P : PyData → Prop} : OkO (tupD (.list ds)) P ↔ P (.tuple ds) := oko_some
theorem mixed_eq {zs a b c : List Int} {st : Sto} (hz : Sheet zs) (ha : Fits zs a) (hb : Fits zs b) (hc : Fits zs c) : g_mixed [.d (rowD zs), .d (rowD a), .d (rowD b), .d (rowD c)] st = some (.d (rowD (mix a b c)), st) := by
  refine ok_eq ?_
  have la : a.length = zs.length := by simpa using ha.1
  have lb : b.length = zs.length := by simpa using hb.1
  have lc : c.length = zs.length := by simpa using hc.1
  unfold g_mixed
  simp only [Ss.ev, S.ev, Sm.ev, T.ev, T.evF, EF.B.ev, I.ev, As.ev, Ws.ev, O.ev, BOp.d, COp.d, F1.d, ok_seq, ok_ifS, ok_set1, ok_setS, ok_ret, ok_retn, ok_drop, ok_par, ok_putX, ok_new, ok_retc, ok_setc, ok_skip, ok_brk, ok_cnt, then_nx, then_rt, then_bk, then_ct, ok_rdV, ok_bin2, ok_un1, ok_k, ok_asB, isB_b, ok_andX, ok_orX, ok_notX, ok_andB, ok_orB, ok_notB, ok_iteX, ok_nilX, ok_consX, ok_tupX, ok_fitX, ok_lsX, ok_cixX, ok_rdC, contD_c, contD_s, at3_0, at3_1, at3_2, ix3_0, ix3_1, ix3_2, isI_i, ok_someO, ok_noO, ok_sliX, ok_csliX, ok_rdCV, ok_tyX, ok_isiX, ok_chn, ok_nilW, ok_consW, ok_datW, ok_celW, ok_callX, isD_d, isP_p, ok_appX, ok_bind, ok_pure, ok_ofOpt, oko_some, oko_none, slotD_d, slotC_c, o_add, o_sub, o_mul, o_fdiv, o_pow, o_mod, o_lt, o_le, o_gt, o_ge, o_eq, o_ne, o_int, List.getElem?_cons_zero, List.getElem?_cons_succ, List.set_cons_zero, List.set_cons_succ, Nat.reduceAdd, List.set_cons_zero, exists_eq_left, exists_eq_left', end_d, end_nx, end_c, Option.some.injEq, decide_eq_true_eq, decide_eq_false_iff_not, ok_anyI, seq_t, seq_l, ok_rng1, ok_enum, ok_lcF, ok_forS, put_nm, put_tp2, put_tp3, wipeR, startR, List.map_cons, List.map_nil, List.length_cons, List.length_nil, List.replicate, List.cons_append, List.nil_append, true_implies, false_implies, forall_const, and_true, true_and, and_false, false_and, Bool.false_eq_true, Bool.true_eq_false, Bool.not_true, Bool.not_false, Bool.not_eq_true', Bool.not_eq_false', Bool.not_eq_eq_eq_not, isi_int, isi_intb, if_true, Bool.if_true_left, ok_callKX, o_catt, o_catl, o_slit, o_slil, ok_fn, turn_nx, turn_rt, ok_some, b_mixed, need_sheet_eq hz, need_filling_eq hz ha, need_filling_eq hz hb, need_filling_eq hz hc, takeR]
  refine ok_zip3 (ds := a.map .int) (es := b.map .int) (fs := c.map .int) ?_
  simp only [Ss.ev, S.ev, Sm.ev, T.ev, T.evF, EF.B.ev, I.ev, As.ev, Ws.ev, O.ev, BOp.d, COp.d, F1.d, ok_seq, ok_ifS, ok_set1, ok_setS, ok_ret, ok_retn, ok_drop, ok_par, ok_putX, ok_new, ok_retc, ok_setc, ok_skip, ok_brk, ok_cnt, then_nx, then_rt, then_bk, then_ct, ok_rdV, ok_bin2, ok_un1, ok_k, ok_asB, isB_b, ok_andX, ok_orX, ok_notX, ok_andB, ok_orB, ok_notB, ok_iteX, ok_nilX, ok_consX, ok_tupX, ok_fitX, ok_lsX, ok_cixX, ok_rdC, contD_c, contD_s, at3_0, at3_1, at3_2, ix3_0, ix3_1, ix3_2, isI_i, ok_someO, ok_noO, ok_sliX, ok_csliX, ok_rdCV, ok_tyX, ok_isiX, ok_chn, ok_nilW, ok_consW, ok_datW, ok_celW, ok_callX, isD_d, isP_p, ok_appX, ok_bind, ok_pure, ok_ofOpt, oko_some, oko_none, slotD_d, slotC_c, o_add, o_sub, o_mul, o_fdiv, o_pow, o_mod, o_lt, o_le, o_gt, o_ge, o_eq, o_ne, o_int, List.getElem?_cons_zero, List.getElem?_cons_succ, List.set_cons_zero, List.set_cons_succ, Nat.reduceAdd, List.set_cons_zero, exists_eq_left, exists_eq_left', end_d, end_nx, end_c, Option.some.injEq, decide_eq_true_eq, decide_eq_false_iff_not, ok_anyI, seq_t, seq_l, ok_rng1, ok_enum, ok_lcF, ok_forS, put_nm, put_tp2, put_tp3, wipeR, startR, List.map_cons, List.map_nil, List.length_cons, List.length_nil, List.replicate, List.cons_append, List.nil_append, true_implies, false_implies, forall_const, and_true, true_and, and_false, false_and, Bool.false_eq_true, Bool.true_eq_false, Bool.not_true, Bool.not_false, Bool.not_eq_true', Bool.not_eq_false', Bool.not_eq_eq_eq_not, isi_int, isi_intb, if_true, Bool.if_true_left, ok_callKX, o_catt, o_catl, o_slit, o_slil, ok_fn, turn_nx, turn_rt, ok_some, rowD, List.length_map]
  refine ⟨by rw [la, lb], by rw [la, lc], ?_, comp_pure (tb := fun _ => true) (e := eMix) (fun d hd => ?_) ?_⟩
  · rw [zip3D_len (by rw [List.length_map, List.length_map, la, lb]) (by rw [List.length_map, List.length_map, la, lc]), List.length_map, la]
    have := hz.2.1
    have := line8
    omega
  · obtain ⟨x, y, z, rfl⟩ := zip3_mem hd
    simp only [Ss.ev, S.ev, Sm.ev, T.ev, T.evF, EF.B.ev, I.ev, As.ev, Ws.ev, O.ev, BOp.d, COp.d, F1.d, ok_seq, ok_ifS, ok_set1, ok_setS, ok_ret, ok_retn, ok_drop, ok_par, ok_putX, ok_new, ok_retc, ok_setc, ok_skip, ok_brk, ok_cnt, then_nx, then_rt, then_bk, then_ct, ok_rdV, ok_bin2, ok_un1, ok_k, ok_asB, isB_b, ok_andX, ok_orX, ok_notX, ok_andB, ok_orB, ok_notB, ok_iteX, ok_nilX, ok_consX, ok_tupX, ok_fitX, ok_lsX, ok_cixX, ok_rdC, contD_c, contD_s, at3_0, at3_1, at3_2, ix3_0, ix3_1, ix3_2, isI_i, ok_someO, ok_noO, ok_sliX, ok_csliX, ok_rdCV, ok_tyX, ok_isiX, ok_chn, ok_nilW, ok_consW, ok_datW, ok_celW, ok_callX, isD_d, isP_p, ok_appX, ok_bind, ok_pure, ok_ofOpt, oko_some, oko_none, slotD_d, slotC_c, o_add, o_sub, o_mul, o_fdiv, o_pow, o_mod, o_lt, o_le, o_gt, o_ge, o_eq, o_ne, o_int, List.getElem?_cons_zero, List.getElem?_cons_succ, List.set_cons_zero, List.set_cons_succ, Nat.reduceAdd, List.set_cons_zero, exists_eq_left, exists_eq_left', end_d, end_nx, end_c, Option.some.injEq, decide_eq_true_eq, decide_eq_false_iff_not, ok_anyI, seq_t, seq_l, ok_rng1, ok_enum, ok_lcF, ok_forS, put_nm, put_tp2, put_tp3, wipeR, startR, List.map_cons, List.map_nil, List.length_cons, List.length_nil, List.replicate, List.cons_append, List.nil_append, true_implies, false_implies, forall_const, and_true, true_and, and_false, false_and, Bool.false_eq_true, Bool.true_eq_false, Bool.not_true, Bool.not_false, Bool.not_eq_true', Bool.not_eq_false', Bool.not_eq_eq_eq_not, isi_int, isi_intb, if_true, Bool.if_true_left, ok_callKX, o_catt, o_catl, o_slit, o_slil, ok_fn, turn_nx, turn_rt, ok_some, eMix]
    refine ⟨fun h => ?_, fun h => ?_⟩ <;> simp [h]
  · rw [List.filter_eq_self.mpr fun _ _ => rfl, mix_map]
    simp only [Ss.ev, S.ev, Sm.ev, T.ev, T.evF, EF.B.ev, I.ev, As.ev, Ws.ev, O.ev, BOp.d, COp.d, F1.d, ok_seq, ok_ifS, ok_set1, ok_setS, ok_ret, ok_retn, ok_drop, ok_par, ok_putX, ok_new, ok_retc, ok_setc, ok_skip, ok_brk, ok_cnt, then_nx, then_rt, then_bk, then_ct, ok_rdV, ok_bin2, ok_un1, ok_k, ok_asB, isB_b, ok_andX, ok_orX, ok_notX, ok_andB, ok_orB, ok_notB, ok_iteX, ok_nilX, ok_consX, ok_tupX, ok_fitX, ok_lsX, ok_cixX, ok_rdC, contD_c, contD_s, at3_0, at3_1, at3_2, ix3_0, ix3_1, ix3_2, isI_i, ok_someO, ok_noO, ok_sliX, ok_csliX, ok_rdCV, ok_tyX, ok_isiX, ok_chn, ok_nilW, ok_consW, ok_datW, ok_celW, ok_callX, isD_d, isP_p, ok_appX, ok_bind, ok_pure, ok_ofOpt, oko_some, oko_none, slotD_d, slotC_c, o_add, o_sub, o_mul, o_fdiv, o_pow, o_mod, o_lt, o_le, o_gt, o_ge, o_eq, o_ne, o_int, List.getElem?_cons_zero, List.getElem?_cons_succ, List.set_cons_zero, List.set_cons_succ, Nat.reduceAdd, List.set_cons_zero, exists_eq_left, exists_eq_left', end_d, end_nx, end_c, Option.some.injEq, decide_eq_true_eq, decide_eq_false_iff_not, ok_anyI, seq_t, seq_l, ok_rng1, ok_enum, ok_lcF, ok_forS, put_nm, put_tp2, put_tp3, wipeR, startR, List.map_cons, List.map_nil, List.length_cons, List.length_nil, List.replicate, List.cons_append, List.nil_append, true_implies, false_implies, forall_const, and_true, true_and, and_false, false_and, Bool.false_eq_true, Bool.true_eq_false, Bool.not_true, Bool.not_false, Bool.not_eq_true', Bool.not_eq_false', Bool.not_eq_eq_eq_not, isi_int, isi_intb, if_true, Bool.if_true_left, ok_callKX, o_catt, o_catl, o_slit, o_slil, ok_fn, turn_nx, turn_rt, ok_some, tup_l, takeR]
end K06

set_option Elab.async false
set_option linter.all false
set_option maxRecDepth 100000
set_option maxHeartbeats 2000000
namespace K06
open PySem PySem.Spec PyProof.Rows L2 EF
/-! ### the draws -/
theorem Bag.mono {Y Z : Int} {n : Nat} {st : Sto} (h : Bag Y n st) (l : Y ≤ Z) : Bag Z n st := let ⟨r, b, t, e, h1, h2, h3, h4⟩ := h; ⟨r, b, t, e, h1, h2, h3, by omega⟩
theorem pouch_ok {cell : Int} {st : Sto} : Ok (g_law_pouch [.d (.int cell)] st) fun w s => w = .c st.length ∧ Bag 0 st.length s ∧ s.length = st.length + 1 := by
  unfold g_law_pouch
  simp only [Ss.ev, S.ev, Sm.ev, T.ev, T.evF, EF.B.ev, I.ev, As.ev, Ws.ev, O.ev, BOp.d, COp.d, F1.d, ok_seq, ok_ifS, ok_set1, ok_setS, ok_ret, ok_retn, ok_drop, ok_par, ok_putX, ok_new, ok_retc, ok_setc, ok_skip, ok_brk, ok_cnt, then_nx, then_rt, then_bk, then_ct, ok_rdV, ok_bin2, ok_un1, ok_k, ok_asB, isB_b, ok_andX, ok_orX, ok_notX, ok_andB, ok_orB, ok_notB, ok_iteX, ok_nilX, ok_consX, ok_tupX, ok_fitX, ok_lsX, ok_cixX, ok_rdC, contD_c, contD_s, at3_0, at3_1, at3_2, ix3_0, ix3_1, ix3_2, isI_i, ok_someO, ok_noO, ok_sliX, ok_csliX, ok_rdCV, ok_tyX, ok_isiX, ok_chn, ok_nilW, ok_consW, ok_datW, ok_celW, ok_callX, isD_d, isP_p, ok_appX, ok_bind, ok_pure, ok_ofOpt, oko_some, oko_none, slotD_d, slotC_c, o_add, o_sub, o_mul, o_fdiv, o_pow, o_mod, o_lt, o_le, o_gt, o_ge, o_eq, o_ne, o_int, List.getElem?_cons_zero, List.getElem?_cons_succ, List.set_cons_zero, List.set_cons_succ, Nat.reduceAdd, List.set_cons_zero, exists_eq_left, exists_eq_left', end_d, end_nx, end_c, Option.some.injEq, decide_eq_true_eq, decide_eq_false_iff_not, ok_anyI, seq_t, seq_l, ok_rng1, ok_enum, ok_lcF, ok_forS, put_nm, put_tp2, put_tp3, wipeR, startR, List.map_cons, List.map_nil, List.length_cons, List.length_nil, List.replicate, List.cons_append, List.nil_append, true_implies, false_implies, forall_const, and_true, true_and, and_false, false_and, Bool.false_eq_true, Bool.true_eq_false, Bool.not_true, Bool.not_false, Bool.not_eq_true', Bool.not_eq_false', Bool.not_eq_eq_eq_not, isi_int, isi_intb, if_true, Bool.if_true_left, ok_callKX, o_catt, o_catl, o_slit, o_slil, ok_fn, turn_nx, turn_rt, ok_some, b_law_pouch]
  have fin : ∀ r : Int, ∃ a, (if st.length < (st ++ [some [PyData.int r, PyData.int (cell % 999999999999999989), PyData.int 0]]).length then some (W.c st.length, (st ++ [some [PyData.int r, PyData.int (cell % 999999999999999989), PyData.int 0]]).take (st.length + 1)) else none) = some a ∧ a.1 = .c st.length ∧ Bag 0 st.length a.2 ∧ a.2.length = st.length + 1 := fun r => by
    have h1 : st.length < (st ++ [some [PyData.int r, PyData.int (cell % 999999999999999989), PyData.int 0]]).length := by simp
    rw [if_pos h1]
    refine ⟨_, rfl, rfl, ?_, ?_⟩
    · rw [List.take_of_length_le (by simp)]
      exact ⟨r, cell % 999999999999999989, 0, by simp, Int.emod_nonneg _ (by omega), by have := Int.emod_lt_of_pos cell (show (0 : Int) < 999999999999999989 by omega); omega, by omega, by omega⟩
    · simp
  have c18 : (0 : Int) ≤ 18 ∧ (18 : Int) ≤ 1000000 ∧ Int.natAbs 10 < 2 ^ 64 := by decide
  have l3 : 3 ≤ sizeLine := by have := line8; omega
  refine ⟨c18, fun _ => ⟨c18, by omega, l3, ?_⟩, fun _ => ⟨by omega, l3, ?_⟩⟩
  · obtain ⟨a, e, p⟩ := fin (cell - 10 ^ Int.toNat 18)
    exact ⟨a, e, p⟩
  · obtain ⟨a, e, p⟩ := fin 0
    exact ⟨a, e, p⟩
theorem rep1 {d : PyData} {k : Int} {P : PyData → Prop} (h : 1 ≤ k) (h2 : k ≤ 1000) : OkO (mulD (.tuple [d]) (.int k)) P ↔ P (.tuple (List.replicate k.toNat d)) := by
  have e : mulD (.tuple [d]) (.int k) = some (.tuple (List.replicate k.toNat d)) := by
    show ((none : Option PyData).or ((if ([d] : List PyData) ≠ [] ∧ 1 ≤ k ∧ k ≤ 1000 ∧ ([d] : List PyData).length ≤ 1000 then some (PyData.tuple (List.replicate k.toNat [d]).flatten) else none).or none)) = _
    rw [if_pos ⟨by simp, h, h2, by simp⟩]
    have e2 : ∀ n : Nat, (List.replicate n [d]).flatten = List.replicate n d := fun n => by
      induction n with
      | zero => rfl
      | succ n ih => rw [List.replicate_succ, List.flatten_cons, ih, List.replicate_succ]; rfl
    rw [e2]
    rfl
  rw [e, oko_some]
theorem replD {n : Nat} {x : Int} : PyData.tuple (List.replicate n (.int x)) = rowD (List.replicate n x) := by
  unfold rowD
  rw [List.map_replicate]
theorem ints_of : ∀ {ys : List PyData} {R : Int → Prop}, (∀ y ∈ ys, ∃ x : Int, y = .int x ∧ R x) → ∃ xs : List Int, ys = xs.map .int ∧ ∀ x ∈ xs, R x
  | [], _, _ => ⟨[], rfl, fun _ h => by cases h⟩
  | y :: ys, R, h => by
    obtain ⟨x, rfl, hx⟩ := h _ List.mem_cons_self
    obtain ⟨xs, rfl, hs⟩ := ints_of fun z m => h z (List.mem_cons_of_mem _ m)
    exact ⟨x :: xs, rfl, fun z m => by
      rcases List.mem_cons.mp m with rfl | m
      · exact hx
      · exact hs z m⟩
theorem rng_mem {n : Nat} {i : Nat} {d : PyData} (h : (rngD n 0)[i]? = some d) : i < n ∧ d = .int (i : Int) := by
  have hi : i < n := by
    have := (List.getElem?_eq_some_iff.mp h).1
    rwa [rngD_len] at this
  rw [rngD_at hi] at h
  cases h
  exact ⟨hi, by simp⟩
theorem sheet_rep {k x : Int} (h1 : 1 ≤ k) (h2 : k ≤ 8) (h3 : 1 ≤ x) (h4 : x ≤ 5) : Sheet (List.replicate k.toNat x) :=
  ⟨by rw [List.length_replicate]; omega, by rw [List.length_replicate]; omega, fun z hz => by rw [(List.mem_replicate.mp hz).2]; exact ⟨h3, h4⟩⟩
theorem Bag.take {Z : Int} {n k : Nat} {s : Sto} (h : Bag Z n s) (l : n < k) : Bag Z n (s.take k) := by
  obtain ⟨r, b, t, e, p⟩ := h
  exact ⟨r, b, t, by rw [List.getElem?_take_of_lt l]; exact e, p⟩
theorem sizes_comp {Y : Int} {n : Nat} {s : Sto} {j : Int} {x3 x4 x1 : Option W} (h : Bag Y n s) (hY : Y < 2 ^ 58 + 100) (h1 : 1 ≤ j) (h2 : j ≤ 8) :
    Ok (compGo noGd (G.nm 5) (fun x => pure true) (bin2 addD (fun x => pure (PyData.int 1)) (callX g_law_take (consW (celW 0) (consW (datW (rdV 2)) nilW))))
      [some (W.c n), x1, some (W.d (PyData.int 5)), x3, x4, none] (rngD j.toNat 0) s) fun xs s' => ∃ zs : List Int, xs = zs.map .int ∧ Sheet zs ∧ Upd n s s' ∧ Bag (Y + 8) n s' := by
  refine (comp_st (k := 0) (fun i s' => Upd n s s' ∧ Bag (Y + i) n s') (fun _ y => ∃ x : Int, y = .int x ∧ 1 ≤ x ∧ x ≤ 5) (fun i d s' hd hI => ?_) ⟨.refl, by simpa using h⟩).mono ?_
  · obtain ⟨hi, rfl⟩ := rng_mem hd
    obtain ⟨u, hb⟩ := hI
    simp only [Ss.ev, S.ev, Sm.ev, T.ev, T.evF, EF.B.ev, I.ev, As.ev, Ws.ev, O.ev, BOp.d, COp.d, F1.d, ok_seq, ok_ifS, ok_set1, ok_setS, ok_ret, ok_retn, ok_drop, ok_par, ok_putX, ok_new, ok_retc, ok_setc, ok_skip, ok_brk, ok_cnt, then_nx, then_rt, then_bk, then_ct, ok_rdV, ok_bin2, ok_un1, ok_k, ok_asB, isB_b, ok_andX, ok_orX, ok_notX, ok_andB, ok_orB, ok_notB, ok_iteX, ok_nilX, ok_consX, ok_tupX, ok_fitX, ok_lsX, ok_cixX, ok_rdC, contD_c, contD_s, at3_0, at3_1, at3_2, ix3_0, ix3_1, ix3_2, isI_i, ok_someO, ok_noO, ok_sliX, ok_csliX, ok_rdCV, ok_tyX, ok_isiX, ok_chn, ok_nilW, ok_consW, ok_datW, ok_celW, ok_callX, isD_d, isP_p, ok_appX, ok_bind, ok_pure, ok_ofOpt, oko_some, oko_none, slotD_d, slotC_c, o_add, o_sub, o_mul, o_fdiv, o_pow, o_mod, o_lt, o_le, o_gt, o_ge, o_eq, o_ne, o_int, List.getElem?_cons_zero, List.getElem?_cons_succ, List.set_cons_zero, List.set_cons_succ, Nat.reduceAdd, List.set_cons_zero, exists_eq_left, exists_eq_left', end_d, end_nx, end_c, Option.some.injEq, decide_eq_true_eq, decide_eq_false_iff_not, ok_anyI, seq_t, seq_l, ok_rng1, ok_enum, ok_lcF, ok_forS, put_nm, put_tp2, put_tp3, wipeR, startR, List.map_cons, List.map_nil, List.length_cons, List.length_nil, List.replicate, List.cons_append, List.nil_append, true_implies, false_implies, forall_const, and_true, true_and, and_false, false_and, Bool.false_eq_true, Bool.true_eq_false, Bool.not_true, Bool.not_false, Bool.not_eq_true', Bool.not_eq_false', Bool.not_eq_eq_eq_not, isi_int, isi_intb, if_true, Bool.if_true_left, ok_callKX, o_catt, o_catl, o_slit, o_slil, ok_fn, turn_nx, turn_rt, ok_some]
    refine (take_ok hb (by omega) (by omega) (by omega)).mono ?_
    rintro _ s2 ⟨d, rfl, d1, d2, u2, hb2⟩
    simp only [Ss.ev, S.ev, Sm.ev, T.ev, T.evF, EF.B.ev, I.ev, As.ev, Ws.ev, O.ev, BOp.d, COp.d, F1.d, ok_seq, ok_ifS, ok_set1, ok_setS, ok_ret, ok_retn, ok_drop, ok_par, ok_putX, ok_new, ok_retc, ok_setc, ok_skip, ok_brk, ok_cnt, then_nx, then_rt, then_bk, then_ct, ok_rdV, ok_bin2, ok_un1, ok_k, ok_asB, isB_b, ok_andX, ok_orX, ok_notX, ok_andB, ok_orB, ok_notB, ok_iteX, ok_nilX, ok_consX, ok_tupX, ok_fitX, ok_lsX, ok_cixX, ok_rdC, contD_c, contD_s, at3_0, at3_1, at3_2, ix3_0, ix3_1, ix3_2, isI_i, ok_someO, ok_noO, ok_sliX, ok_csliX, ok_rdCV, ok_tyX, ok_isiX, ok_chn, ok_nilW, ok_consW, ok_datW, ok_celW, ok_callX, isD_d, isP_p, ok_appX, ok_bind, ok_pure, ok_ofOpt, oko_some, oko_none, slotD_d, slotC_c, o_add, o_sub, o_mul, o_fdiv, o_pow, o_mod, o_lt, o_le, o_gt, o_ge, o_eq, o_ne, o_int, List.getElem?_cons_zero, List.getElem?_cons_succ, List.set_cons_zero, List.set_cons_succ, Nat.reduceAdd, List.set_cons_zero, exists_eq_left, exists_eq_left', end_d, end_nx, end_c, Option.some.injEq, decide_eq_true_eq, decide_eq_false_iff_not, ok_anyI, seq_t, seq_l, ok_rng1, ok_enum, ok_lcF, ok_forS, put_nm, put_tp2, put_tp3, wipeR, startR, List.map_cons, List.map_nil, List.length_cons, List.length_nil, List.replicate, List.cons_append, List.nil_append, true_implies, false_implies, forall_const, and_true, true_and, and_false, false_and, Bool.false_eq_true, Bool.true_eq_false, Bool.not_true, Bool.not_false, Bool.not_eq_true', Bool.not_eq_false', Bool.not_eq_eq_eq_not, isi_int, isi_intb, if_true, Bool.if_true_left, ok_callKX, o_catt, o_catl, o_slit, o_slil, ok_fn, turn_nx, turn_rt, ok_some]
    exact ⟨⟨_, rfl, by omega, by omega⟩, u.trans u2, hb2.mono (by omega)⟩
  · rintro ys s' ⟨hl, hR, u, hb⟩
    rw [rngD_len] at hl hb
    obtain ⟨zs, rfl, hz⟩ := ints_of (R := fun x => 1 ≤ x ∧ x ≤ 5) fun y hy => by
      obtain ⟨i, hi, e⟩ := List.getElem_of_mem hy
      exact hR i y (by rw [List.getElem?_eq_getElem hi, e])
    rw [List.length_map] at hl
    exact ⟨zs, rfl, ⟨by omega, by omega, hz⟩, u, hb.mono (by omega)⟩
theorem sizes_ok {Z : Int} {n : Nat} {st : Sto} (h : Bag Z n st) (hZ : Z < 2 ^ 58) :
    Ok (g_law_draw_sizes [.c n, .d (.int 8), .d (.int 5)] st) fun w s => ∃ zs : List Int, w = .d (rowD zs) ∧ Sheet zs ∧ Upd n st s ∧ Bag (Z + 20) n s := by
  have hn := h.lt
  have l1 : 1 ≤ sizeLine := by have := line8; omega
  have l8 : ∀ j : Int, j ≤ 8 → (rngD j.toNat 0).length ≤ sizeLine := fun j hj => by rw [rngD_len]; have := line8; omega
  unfold g_law_draw_sizes
  simp only [Ss.ev, S.ev, Sm.ev, T.ev, T.evF, EF.B.ev, I.ev, As.ev, Ws.ev, O.ev, BOp.d, COp.d, F1.d, ok_seq, ok_ifS, ok_set1, ok_setS, ok_ret, ok_retn, ok_drop, ok_par, ok_putX, ok_new, ok_retc, ok_setc, ok_skip, ok_brk, ok_cnt, then_nx, then_rt, then_bk, then_ct, ok_rdV, ok_bin2, ok_un1, ok_k, ok_asB, isB_b, ok_andX, ok_orX, ok_notX, ok_andB, ok_orB, ok_notB, ok_iteX, ok_nilX, ok_consX, ok_tupX, ok_fitX, ok_lsX, ok_cixX, ok_rdC, contD_c, contD_s, at3_0, at3_1, at3_2, ix3_0, ix3_1, ix3_2, isI_i, ok_someO, ok_noO, ok_sliX, ok_csliX, ok_rdCV, ok_tyX, ok_isiX, ok_chn, ok_nilW, ok_consW, ok_datW, ok_celW, ok_callX, isD_d, isP_p, ok_appX, ok_bind, ok_pure, ok_ofOpt, oko_some, oko_none, slotD_d, slotC_c, o_add, o_sub, o_mul, o_fdiv, o_pow, o_mod, o_lt, o_le, o_gt, o_ge, o_eq, o_ne, o_int, List.getElem?_cons_zero, List.getElem?_cons_succ, List.set_cons_zero, List.set_cons_succ, Nat.reduceAdd, List.set_cons_zero, exists_eq_left, exists_eq_left', end_d, end_nx, end_c, Option.some.injEq, decide_eq_true_eq, decide_eq_false_iff_not, ok_anyI, seq_t, seq_l, ok_rng1, ok_enum, ok_lcF, ok_forS, put_nm, put_tp2, put_tp3, wipeR, startR, List.map_cons, List.map_nil, List.length_cons, List.length_nil, List.replicate, List.cons_append, List.nil_append, true_implies, false_implies, forall_const, and_true, true_and, and_false, false_and, Bool.false_eq_true, Bool.true_eq_false, Bool.not_true, Bool.not_false, Bool.not_eq_true', Bool.not_eq_false', Bool.not_eq_eq_eq_not, isi_int, isi_intb, if_true, Bool.if_true_left, ok_callKX, o_catt, o_catl, o_slit, o_slil, ok_fn, turn_nx, turn_rt, ok_some, b_law_draw_sizes]
  refine (take_ok h (by omega) (by omega) (by omega)).mono ?_
  rintro _ s1 ⟨way, rfl, w1, w2, u1, h1⟩
  simp only [Ss.ev, S.ev, Sm.ev, T.ev, T.evF, EF.B.ev, I.ev, As.ev, Ws.ev, O.ev, BOp.d, COp.d, F1.d, ok_seq, ok_ifS, ok_set1, ok_setS, ok_ret, ok_retn, ok_drop, ok_par, ok_putX, ok_new, ok_retc, ok_setc, ok_skip, ok_brk, ok_cnt, then_nx, then_rt, then_bk, then_ct, ok_rdV, ok_bin2, ok_un1, ok_k, ok_asB, isB_b, ok_andX, ok_orX, ok_notX, ok_andB, ok_orB, ok_notB, ok_iteX, ok_nilX, ok_consX, ok_tupX, ok_fitX, ok_lsX, ok_cixX, ok_rdC, contD_c, contD_s, at3_0, at3_1, at3_2, ix3_0, ix3_1, ix3_2, isI_i, ok_someO, ok_noO, ok_sliX, ok_csliX, ok_rdCV, ok_tyX, ok_isiX, ok_chn, ok_nilW, ok_consW, ok_datW, ok_celW, ok_callX, isD_d, isP_p, ok_appX, ok_bind, ok_pure, ok_ofOpt, oko_some, oko_none, slotD_d, slotC_c, o_add, o_sub, o_mul, o_fdiv, o_pow, o_mod, o_lt, o_le, o_gt, o_ge, o_eq, o_ne, o_int, List.getElem?_cons_zero, List.getElem?_cons_succ, List.set_cons_zero, List.set_cons_succ, Nat.reduceAdd, List.set_cons_zero, exists_eq_left, exists_eq_left', end_d, end_nx, end_c, Option.some.injEq, decide_eq_true_eq, decide_eq_false_iff_not, ok_anyI, seq_t, seq_l, ok_rng1, ok_enum, ok_lcF, ok_forS, put_nm, put_tp2, put_tp3, wipeR, startR, List.map_cons, List.map_nil, List.length_cons, List.length_nil, List.replicate, List.cons_append, List.nil_append, true_implies, false_implies, forall_const, and_true, true_and, and_false, false_and, Bool.false_eq_true, Bool.true_eq_false, Bool.not_true, Bool.not_false, Bool.not_eq_true', Bool.not_eq_false', Bool.not_eq_eq_eq_not, isi_int, isi_intb, if_true, Bool.if_true_left, ok_callKX, o_catt, o_catl, o_slit, o_slil, ok_fn, turn_nx, turn_rt, ok_some, rep1 (show (1 : Int) ≤ 8 by omega) (show (8 : Int) ≤ 1000 by omega), replD, takeL u1.len]
  refine ⟨fun hw => ⟨l1, _, rfl, sheet_rep (by omega) (by omega) (by omega) (by omega), u1, h1.mono (by omega)⟩, fun hw => ⟨fun hw1 => ⟨fun _ => ?_, fun _ => ⟨small_ok (by omega) (by omega), l8 _ (by omega), ?_⟩⟩, fun hw1 => ?_⟩⟩
  · refine (take_ok h1 (by omega) (by omega) (by omega)).mono ?_
    rintro _ s2 ⟨d, rfl, d1, d2, u2, h2⟩
    simp only [Ss.ev, S.ev, Sm.ev, T.ev, T.evF, EF.B.ev, I.ev, As.ev, Ws.ev, O.ev, BOp.d, COp.d, F1.d, ok_seq, ok_ifS, ok_set1, ok_setS, ok_ret, ok_retn, ok_drop, ok_par, ok_putX, ok_new, ok_retc, ok_setc, ok_skip, ok_brk, ok_cnt, then_nx, then_rt, then_bk, then_ct, ok_rdV, ok_bin2, ok_un1, ok_k, ok_asB, isB_b, ok_andX, ok_orX, ok_notX, ok_andB, ok_orB, ok_notB, ok_iteX, ok_nilX, ok_consX, ok_tupX, ok_fitX, ok_lsX, ok_cixX, ok_rdC, contD_c, contD_s, at3_0, at3_1, at3_2, ix3_0, ix3_1, ix3_2, isI_i, ok_someO, ok_noO, ok_sliX, ok_csliX, ok_rdCV, ok_tyX, ok_isiX, ok_chn, ok_nilW, ok_consW, ok_datW, ok_celW, ok_callX, isD_d, isP_p, ok_appX, ok_bind, ok_pure, ok_ofOpt, oko_some, oko_none, slotD_d, slotC_c, o_add, o_sub, o_mul, o_fdiv, o_pow, o_mod, o_lt, o_le, o_gt, o_ge, o_eq, o_ne, o_int, List.getElem?_cons_zero, List.getElem?_cons_succ, List.set_cons_zero, List.set_cons_succ, Nat.reduceAdd, List.set_cons_zero, exists_eq_left, exists_eq_left', end_d, end_nx, end_c, Option.some.injEq, decide_eq_true_eq, decide_eq_false_iff_not, ok_anyI, seq_t, seq_l, ok_rng1, ok_enum, ok_lcF, ok_forS, put_nm, put_tp2, put_tp3, wipeR, startR, List.map_cons, List.map_nil, List.length_cons, List.length_nil, List.replicate, List.cons_append, List.nil_append, true_implies, false_implies, forall_const, and_true, true_and, and_false, false_and, Bool.false_eq_true, Bool.true_eq_false, Bool.not_true, Bool.not_false, Bool.not_eq_true', Bool.not_eq_false', Bool.not_eq_eq_eq_not, isi_int, isi_intb, if_true, Bool.if_true_left, ok_callKX, o_catt, o_catl, o_slit, o_slil, ok_fn, turn_nx, turn_rt, ok_some, takeL (u1.trans u2).len, replD]
    exact ⟨l1, _, rfl, sheet_rep (by omega) (by omega) (by omega) (by omega), u1.trans u2, h2.mono (by omega)⟩
  · refine (sizes_comp h1 (by omega) (by omega) (by omega)).mono ?_
    rintro _ s2 ⟨zs, rfl, hz, u2, h2⟩
    simp only [Ss.ev, S.ev, Sm.ev, T.ev, T.evF, EF.B.ev, I.ev, As.ev, Ws.ev, O.ev, BOp.d, COp.d, F1.d, ok_seq, ok_ifS, ok_set1, ok_setS, ok_ret, ok_retn, ok_drop, ok_par, ok_putX, ok_new, ok_retc, ok_setc, ok_skip, ok_brk, ok_cnt, then_nx, then_rt, then_bk, then_ct, ok_rdV, ok_bin2, ok_un1, ok_k, ok_asB, isB_b, ok_andX, ok_orX, ok_notX, ok_andB, ok_orB, ok_notB, ok_iteX, ok_nilX, ok_consX, ok_tupX, ok_fitX, ok_lsX, ok_cixX, ok_rdC, contD_c, contD_s, at3_0, at3_1, at3_2, ix3_0, ix3_1, ix3_2, isI_i, ok_someO, ok_noO, ok_sliX, ok_csliX, ok_rdCV, ok_tyX, ok_isiX, ok_chn, ok_nilW, ok_consW, ok_datW, ok_celW, ok_callX, isD_d, isP_p, ok_appX, ok_bind, ok_pure, ok_ofOpt, oko_some, oko_none, slotD_d, slotC_c, o_add, o_sub, o_mul, o_fdiv, o_pow, o_mod, o_lt, o_le, o_gt, o_ge, o_eq, o_ne, o_int, List.getElem?_cons_zero, List.getElem?_cons_succ, List.set_cons_zero, List.set_cons_succ, Nat.reduceAdd, List.set_cons_zero, exists_eq_left, exists_eq_left', end_d, end_nx, end_c, Option.some.injEq, decide_eq_true_eq, decide_eq_false_iff_not, ok_anyI, seq_t, seq_l, ok_rng1, ok_enum, ok_lcF, ok_forS, put_nm, put_tp2, put_tp3, wipeR, startR, List.map_cons, List.map_nil, List.length_cons, List.length_nil, List.replicate, List.cons_append, List.nil_append, true_implies, false_implies, forall_const, and_true, true_and, and_false, false_and, Bool.false_eq_true, Bool.true_eq_false, Bool.not_true, Bool.not_false, Bool.not_eq_true', Bool.not_eq_false', Bool.not_eq_eq_eq_not, isi_int, isi_intb, if_true, Bool.if_true_left, ok_callKX, o_catt, o_catl, o_slit, o_slil, ok_fn, turn_nx, turn_rt, ok_some, tup_l, takeL (u1.trans u2).len]
    exact ⟨zs, rfl, hz, u1.trans u2, h2.mono (by omega)⟩
  · refine (take_ok h1 (by omega) (by omega) (by omega)).mono ?_
    rintro _ s2 ⟨m, rfl, m1, m2, u2, h2⟩
    simp only [Ss.ev, S.ev, Sm.ev, T.ev, T.evF, EF.B.ev, I.ev, As.ev, Ws.ev, O.ev, BOp.d, COp.d, F1.d, ok_seq, ok_ifS, ok_set1, ok_setS, ok_ret, ok_retn, ok_drop, ok_par, ok_putX, ok_new, ok_retc, ok_setc, ok_skip, ok_brk, ok_cnt, then_nx, then_rt, then_bk, then_ct, ok_rdV, ok_bin2, ok_un1, ok_k, ok_asB, isB_b, ok_andX, ok_orX, ok_notX, ok_andB, ok_orB, ok_notB, ok_iteX, ok_nilX, ok_consX, ok_tupX, ok_fitX, ok_lsX, ok_cixX, ok_rdC, contD_c, contD_s, at3_0, at3_1, at3_2, ix3_0, ix3_1, ix3_2, isI_i, ok_someO, ok_noO, ok_sliX, ok_csliX, ok_rdCV, ok_tyX, ok_isiX, ok_chn, ok_nilW, ok_consW, ok_datW, ok_celW, ok_callX, isD_d, isP_p, ok_appX, ok_bind, ok_pure, ok_ofOpt, oko_some, oko_none, slotD_d, slotC_c, o_add, o_sub, o_mul, o_fdiv, o_pow, o_mod, o_lt, o_le, o_gt, o_ge, o_eq, o_ne, o_int, List.getElem?_cons_zero, List.getElem?_cons_succ, List.set_cons_zero, List.set_cons_succ, Nat.reduceAdd, List.set_cons_zero, exists_eq_left, exists_eq_left', end_d, end_nx, end_c, Option.some.injEq, decide_eq_true_eq, decide_eq_false_iff_not, ok_anyI, seq_t, seq_l, ok_rng1, ok_enum, ok_lcF, ok_forS, put_nm, put_tp2, put_tp3, wipeR, startR, List.map_cons, List.map_nil, List.length_cons, List.length_nil, List.replicate, List.cons_append, List.nil_append, true_implies, false_implies, forall_const, and_true, true_and, and_false, false_and, Bool.false_eq_true, Bool.true_eq_false, Bool.not_true, Bool.not_false, Bool.not_eq_true', Bool.not_eq_false', Bool.not_eq_eq_eq_not, isi_int, isi_intb, if_true, Bool.if_true_left, ok_callKX, o_catt, o_catl, o_slit, o_slil, ok_fn, turn_nx, turn_rt, ok_some]
    refine ⟨fun _ => ?_, fun _ => ⟨small_ok (by omega) (by omega), l8 _ (by omega), ?_⟩⟩
    · refine (take_ok h2 (by omega) (by omega) (by omega)).mono ?_
      rintro _ s3 ⟨d, rfl, d1, d2, u3, h3⟩
      simp only [Ss.ev, S.ev, Sm.ev, T.ev, T.evF, EF.B.ev, I.ev, As.ev, Ws.ev, O.ev, BOp.d, COp.d, F1.d, ok_seq, ok_ifS, ok_set1, ok_setS, ok_ret, ok_retn, ok_drop, ok_par, ok_putX, ok_new, ok_retc, ok_setc, ok_skip, ok_brk, ok_cnt, then_nx, then_rt, then_bk, then_ct, ok_rdV, ok_bin2, ok_un1, ok_k, ok_asB, isB_b, ok_andX, ok_orX, ok_notX, ok_andB, ok_orB, ok_notB, ok_iteX, ok_nilX, ok_consX, ok_tupX, ok_fitX, ok_lsX, ok_cixX, ok_rdC, contD_c, contD_s, at3_0, at3_1, at3_2, ix3_0, ix3_1, ix3_2, isI_i, ok_someO, ok_noO, ok_sliX, ok_csliX, ok_rdCV, ok_tyX, ok_isiX, ok_chn, ok_nilW, ok_consW, ok_datW, ok_celW, ok_callX, isD_d, isP_p, ok_appX, ok_bind, ok_pure, ok_ofOpt, oko_some, oko_none, slotD_d, slotC_c, o_add, o_sub, o_mul, o_fdiv, o_pow, o_mod, o_lt, o_le, o_gt, o_ge, o_eq, o_ne, o_int, List.getElem?_cons_zero, List.getElem?_cons_succ, List.set_cons_zero, List.set_cons_succ, Nat.reduceAdd, List.set_cons_zero, exists_eq_left, exists_eq_left', end_d, end_nx, end_c, Option.some.injEq, decide_eq_true_eq, decide_eq_false_iff_not, ok_anyI, seq_t, seq_l, ok_rng1, ok_enum, ok_lcF, ok_forS, put_nm, put_tp2, put_tp3, wipeR, startR, List.map_cons, List.map_nil, List.length_cons, List.length_nil, List.replicate, List.cons_append, List.nil_append, true_implies, false_implies, forall_const, and_true, true_and, and_false, false_and, Bool.false_eq_true, Bool.true_eq_false, Bool.not_true, Bool.not_false, Bool.not_eq_true', Bool.not_eq_false', Bool.not_eq_eq_eq_not, isi_int, isi_intb, if_true, Bool.if_true_left, ok_callKX, o_catt, o_catl, o_slit, o_slil, ok_fn, turn_nx, turn_rt, ok_some, takeL ((u1.trans u2).trans u3).len, rep1 (show (1 : Int) ≤ 1 + m by omega) (show 1 + m ≤ (1000 : Int) by omega), replD]
      exact ⟨l1, _, rfl, sheet_rep (by omega) (by omega) (by omega) (by omega), (u1.trans u2).trans u3, h3.mono (by omega)⟩
    · refine (sizes_comp h2 (by omega) (by omega) (by omega)).mono ?_
      rintro _ s3 ⟨zs, rfl, hz, u3, h3⟩
      simp only [Ss.ev, S.ev, Sm.ev, T.ev, T.evF, EF.B.ev, I.ev, As.ev, Ws.ev, O.ev, BOp.d, COp.d, F1.d, ok_seq, ok_ifS, ok_set1, ok_setS, ok_ret, ok_retn, ok_drop, ok_par, ok_putX, ok_new, ok_retc, ok_setc, ok_skip, ok_brk, ok_cnt, then_nx, then_rt, then_bk, then_ct, ok_rdV, ok_bin2, ok_un1, ok_k, ok_asB, isB_b, ok_andX, ok_orX, ok_notX, ok_andB, ok_orB, ok_notB, ok_iteX, ok_nilX, ok_consX, ok_tupX, ok_fitX, ok_lsX, ok_cixX, ok_rdC, contD_c, contD_s, at3_0, at3_1, at3_2, ix3_0, ix3_1, ix3_2, isI_i, ok_someO, ok_noO, ok_sliX, ok_csliX, ok_rdCV, ok_tyX, ok_isiX, ok_chn, ok_nilW, ok_consW, ok_datW, ok_celW, ok_callX, isD_d, isP_p, ok_appX, ok_bind, ok_pure, ok_ofOpt, oko_some, oko_none, slotD_d, slotC_c, o_add, o_sub, o_mul, o_fdiv, o_pow, o_mod, o_lt, o_le, o_gt, o_ge, o_eq, o_ne, o_int, List.getElem?_cons_zero, List.getElem?_cons_succ, List.set_cons_zero, List.set_cons_succ, Nat.reduceAdd, List.set_cons_zero, exists_eq_left, exists_eq_left', end_d, end_nx, end_c, Option.some.injEq, decide_eq_true_eq, decide_eq_false_iff_not, ok_anyI, seq_t, seq_l, ok_rng1, ok_enum, ok_lcF, ok_forS, put_nm, put_tp2, put_tp3, wipeR, startR, List.map_cons, List.map_nil, List.length_cons, List.length_nil, List.replicate, List.cons_append, List.nil_append, true_implies, false_implies, forall_const, and_true, true_and, and_false, false_and, Bool.false_eq_true, Bool.true_eq_false, Bool.not_true, Bool.not_false, Bool.not_eq_true', Bool.not_eq_false', Bool.not_eq_eq_eq_not, isi_int, isi_intb, if_true, Bool.if_true_left, ok_callKX, o_catt, o_catl, o_slit, o_slil, ok_fn, turn_nx, turn_rt, ok_some, tup_l, takeL ((u1.trans u2).trans u3).len]
      exact ⟨zs, rfl, hz, (u1.trans u2).trans u3, h3.mono (by omega)⟩
theorem fits_of {zs xs : List Int} (hl : xs.length = zs.length) (h : ∀ (i : Nat) (x z : Int), xs[i]? = some x → zs[i]? = some z → 0 ≤ x ∧ x < z) : Fits zs xs :=
  ⟨by rw [List.length_map]; exact hl, fun i x z e1 e2 => by
    rw [List.getElem?_map] at e1
    cases e : xs[i]? with
    | none => rw [e] at e1; cases e1
    | some y =>
      rw [e] at e1
      cases e1
      exact h i _ z e e2⟩
theorem row_ok {Z : Int} {n : Nat} {st : Sto} {zs : List Int} (h : Bag Z n st) (hZ : Z < 2 ^ 58) (hz : Sheet zs) :
    Ok (g_law_draw_row [.c n, .d (rowD zs)] st) fun w s => ∃ xs : List Int, w = .d (rowD xs) ∧ Fits zs xs ∧ Upd n st s ∧ Bag (Z + 8) n s := by
  unfold g_law_draw_row rowD
  simp only [Ss.ev, S.ev, Sm.ev, T.ev, T.evF, EF.B.ev, I.ev, As.ev, Ws.ev, O.ev, BOp.d, COp.d, F1.d, ok_seq, ok_ifS, ok_set1, ok_setS, ok_ret, ok_retn, ok_drop, ok_par, ok_putX, ok_new, ok_retc, ok_setc, ok_skip, ok_brk, ok_cnt, then_nx, then_rt, then_bk, then_ct, ok_rdV, ok_bin2, ok_un1, ok_k, ok_asB, isB_b, ok_andX, ok_orX, ok_notX, ok_andB, ok_orB, ok_notB, ok_iteX, ok_nilX, ok_consX, ok_tupX, ok_fitX, ok_lsX, ok_cixX, ok_rdC, contD_c, contD_s, at3_0, at3_1, at3_2, ix3_0, ix3_1, ix3_2, isI_i, ok_someO, ok_noO, ok_sliX, ok_csliX, ok_rdCV, ok_tyX, ok_isiX, ok_chn, ok_nilW, ok_consW, ok_datW, ok_celW, ok_callX, isD_d, isP_p, ok_appX, ok_bind, ok_pure, ok_ofOpt, oko_some, oko_none, slotD_d, slotC_c, o_add, o_sub, o_mul, o_fdiv, o_pow, o_mod, o_lt, o_le, o_gt, o_ge, o_eq, o_ne, o_int, List.getElem?_cons_zero, List.getElem?_cons_succ, List.set_cons_zero, List.set_cons_succ, Nat.reduceAdd, List.set_cons_zero, exists_eq_left, exists_eq_left', end_d, end_nx, end_c, Option.some.injEq, decide_eq_true_eq, decide_eq_false_iff_not, ok_anyI, seq_t, seq_l, ok_rng1, ok_enum, ok_lcF, ok_forS, put_nm, put_tp2, put_tp3, wipeR, startR, List.map_cons, List.map_nil, List.length_cons, List.length_nil, List.replicate, List.cons_append, List.nil_append, true_implies, false_implies, forall_const, and_true, true_and, and_false, false_and, Bool.false_eq_true, Bool.true_eq_false, Bool.not_true, Bool.not_false, Bool.not_eq_true', Bool.not_eq_false', Bool.not_eq_eq_eq_not, isi_int, isi_intb, if_true, Bool.if_true_left, ok_callKX, o_catt, o_catl, o_slit, o_slil, ok_fn, turn_nx, turn_rt, ok_some, b_law_draw_row, List.length_map]
  refine ⟨by have := hz.2.1; have := line8; omega, ?_⟩
  refine (comp_st (k := 0) (fun i s' => Upd n st s' ∧ Bag (Z + i) n s') (fun i y => ∃ x : Int, y = .int x ∧ ∀ z, zs[i]? = some z → 0 ≤ x ∧ x < z) (fun i d s' hd hI => ?_) ⟨.refl, by simpa using h⟩).mono ?_
  · obtain ⟨u, hb⟩ := hI
    rw [List.getElem?_map] at hd
    cases e : zs[i]? with
    | none => rw [e] at hd; cases hd
    | some z =>
      rw [e] at hd
      cases hd
      have hi : i < zs.length := (List.getElem?_eq_some_iff.mp e).1
      have hz1 := hz.2.2 z (List.mem_of_getElem? e)
      have := hz.2.1
      simp only [Ss.ev, S.ev, Sm.ev, T.ev, T.evF, EF.B.ev, I.ev, As.ev, Ws.ev, O.ev, BOp.d, COp.d, F1.d, ok_seq, ok_ifS, ok_set1, ok_setS, ok_ret, ok_retn, ok_drop, ok_par, ok_putX, ok_new, ok_retc, ok_setc, ok_skip, ok_brk, ok_cnt, then_nx, then_rt, then_bk, then_ct, ok_rdV, ok_bin2, ok_un1, ok_k, ok_asB, isB_b, ok_andX, ok_orX, ok_notX, ok_andB, ok_orB, ok_notB, ok_iteX, ok_nilX, ok_consX, ok_tupX, ok_fitX, ok_lsX, ok_cixX, ok_rdC, contD_c, contD_s, at3_0, at3_1, at3_2, ix3_0, ix3_1, ix3_2, isI_i, ok_someO, ok_noO, ok_sliX, ok_csliX, ok_rdCV, ok_tyX, ok_isiX, ok_chn, ok_nilW, ok_consW, ok_datW, ok_celW, ok_callX, isD_d, isP_p, ok_appX, ok_bind, ok_pure, ok_ofOpt, oko_some, oko_none, slotD_d, slotC_c, o_add, o_sub, o_mul, o_fdiv, o_pow, o_mod, o_lt, o_le, o_gt, o_ge, o_eq, o_ne, o_int, List.getElem?_cons_zero, List.getElem?_cons_succ, List.set_cons_zero, List.set_cons_succ, Nat.reduceAdd, List.set_cons_zero, exists_eq_left, exists_eq_left', end_d, end_nx, end_c, Option.some.injEq, decide_eq_true_eq, decide_eq_false_iff_not, ok_anyI, seq_t, seq_l, ok_rng1, ok_enum, ok_lcF, ok_forS, put_nm, put_tp2, put_tp3, wipeR, startR, List.map_cons, List.map_nil, List.length_cons, List.length_nil, List.replicate, List.cons_append, List.nil_append, true_implies, false_implies, forall_const, and_true, true_and, and_false, false_and, Bool.false_eq_true, Bool.true_eq_false, Bool.not_true, Bool.not_false, Bool.not_eq_true', Bool.not_eq_false', Bool.not_eq_eq_eq_not, isi_int, isi_intb, if_true, Bool.if_true_left, ok_callKX, o_catt, o_catl, o_slit, o_slil, ok_fn, turn_nx, turn_rt, ok_some]
      refine (take_ok hb (by omega) (by omega) (by omega)).mono ?_
      rintro _ s2 ⟨d, rfl, d1, d2, u2, hb2⟩
      simp only [Ss.ev, S.ev, Sm.ev, T.ev, T.evF, EF.B.ev, I.ev, As.ev, Ws.ev, O.ev, BOp.d, COp.d, F1.d, ok_seq, ok_ifS, ok_set1, ok_setS, ok_ret, ok_retn, ok_drop, ok_par, ok_putX, ok_new, ok_retc, ok_setc, ok_skip, ok_brk, ok_cnt, then_nx, then_rt, then_bk, then_ct, ok_rdV, ok_bin2, ok_un1, ok_k, ok_asB, isB_b, ok_andX, ok_orX, ok_notX, ok_andB, ok_orB, ok_notB, ok_iteX, ok_nilX, ok_consX, ok_tupX, ok_fitX, ok_lsX, ok_cixX, ok_rdC, contD_c, contD_s, at3_0, at3_1, at3_2, ix3_0, ix3_1, ix3_2, isI_i, ok_someO, ok_noO, ok_sliX, ok_csliX, ok_rdCV, ok_tyX, ok_isiX, ok_chn, ok_nilW, ok_consW, ok_datW, ok_celW, ok_callX, isD_d, isP_p, ok_appX, ok_bind, ok_pure, ok_ofOpt, oko_some, oko_none, slotD_d, slotC_c, o_add, o_sub, o_mul, o_fdiv, o_pow, o_mod, o_lt, o_le, o_gt, o_ge, o_eq, o_ne, o_int, List.getElem?_cons_zero, List.getElem?_cons_succ, List.set_cons_zero, List.set_cons_succ, Nat.reduceAdd, List.set_cons_zero, exists_eq_left, exists_eq_left', end_d, end_nx, end_c, Option.some.injEq, decide_eq_true_eq, decide_eq_false_iff_not, ok_anyI, seq_t, seq_l, ok_rng1, ok_enum, ok_lcF, ok_forS, put_nm, put_tp2, put_tp3, wipeR, startR, List.map_cons, List.map_nil, List.length_cons, List.length_nil, List.replicate, List.cons_append, List.nil_append, true_implies, false_implies, forall_const, and_true, true_and, and_false, false_and, Bool.false_eq_true, Bool.true_eq_false, Bool.not_true, Bool.not_false, Bool.not_eq_true', Bool.not_eq_false', Bool.not_eq_eq_eq_not, isi_int, isi_intb, if_true, Bool.if_true_left, ok_callKX, o_catt, o_catl, o_slit, o_slil, ok_fn, turn_nx, turn_rt, ok_some]
      refine ⟨⟨_, rfl, fun z' hz' => ?_⟩, u.trans u2, hb2.mono (by omega)⟩
      rw [Nat.zero_add, e] at hz'
      cases hz'
      exact ⟨d1, d2⟩
  · rintro ys s' ⟨hl, hR, u, hb⟩
    rw [List.length_map] at hl hb
    obtain ⟨xs, rfl, _⟩ := ints_of (R := fun _ => True) (ys := ys) fun y hy => by
      obtain ⟨i, hi, e⟩ := List.getElem_of_mem hy
      obtain ⟨x, hx, _⟩ := hR i y (by rw [List.getElem?_eq_getElem hi, e])
      exact ⟨x, hx, trivial⟩
    rw [List.length_map] at hl
    simp only [Ss.ev, S.ev, Sm.ev, T.ev, T.evF, EF.B.ev, I.ev, As.ev, Ws.ev, O.ev, BOp.d, COp.d, F1.d, ok_seq, ok_ifS, ok_set1, ok_setS, ok_ret, ok_retn, ok_drop, ok_par, ok_putX, ok_new, ok_retc, ok_setc, ok_skip, ok_brk, ok_cnt, then_nx, then_rt, then_bk, then_ct, ok_rdV, ok_bin2, ok_un1, ok_k, ok_asB, isB_b, ok_andX, ok_orX, ok_notX, ok_andB, ok_orB, ok_notB, ok_iteX, ok_nilX, ok_consX, ok_tupX, ok_fitX, ok_lsX, ok_cixX, ok_rdC, contD_c, contD_s, at3_0, at3_1, at3_2, ix3_0, ix3_1, ix3_2, isI_i, ok_someO, ok_noO, ok_sliX, ok_csliX, ok_rdCV, ok_tyX, ok_isiX, ok_chn, ok_nilW, ok_consW, ok_datW, ok_celW, ok_callX, isD_d, isP_p, ok_appX, ok_bind, ok_pure, ok_ofOpt, oko_some, oko_none, slotD_d, slotC_c, o_add, o_sub, o_mul, o_fdiv, o_pow, o_mod, o_lt, o_le, o_gt, o_ge, o_eq, o_ne, o_int, List.getElem?_cons_zero, List.getElem?_cons_succ, List.set_cons_zero, List.set_cons_succ, Nat.reduceAdd, List.set_cons_zero, exists_eq_left, exists_eq_left', end_d, end_nx, end_c, Option.some.injEq, decide_eq_true_eq, decide_eq_false_iff_not, ok_anyI, seq_t, seq_l, ok_rng1, ok_enum, ok_lcF, ok_forS, put_nm, put_tp2, put_tp3, wipeR, startR, List.map_cons, List.map_nil, List.length_cons, List.length_nil, List.replicate, List.cons_append, List.nil_append, true_implies, false_implies, forall_const, and_true, true_and, and_false, false_and, Bool.false_eq_true, Bool.true_eq_false, Bool.not_true, Bool.not_false, Bool.not_eq_true', Bool.not_eq_false', Bool.not_eq_eq_eq_not, isi_int, isi_intb, if_true, Bool.if_true_left, ok_callKX, o_catt, o_catl, o_slit, o_slil, ok_fn, turn_nx, turn_rt, ok_some, tup_l, takeL u.len]
    refine ⟨xs, rfl, fits_of hl fun i x z e1 e2 => ?_, u, hb.mono (by have := hz.2.1; omega)⟩
    obtain ⟨x', hx, hR'⟩ := hR i (.int x) (by rw [List.getElem?_map, e1]; rfl)
    cases hx
    exact hR' z (by rw [Nat.zero_add]; exact e2)
end K06

set_option Elab.async false
set_option linter.all false
set_option maxRecDepth 100000
set_option maxHeartbeats 2000000
namespace K06
open PySem PySem.Spec PyProof.Rows L2 EF
/-! ### draws that make a list of their own -/
/-- below the place m nothing but the bag has changed; at m stands ds -/
structure Own (Z : Int) (n m : Nat) (st s : Sto) (ds : List PyData) : Prop where
  bag : Bag Z n s
  len : s.length = m + 1
  oth : ∀ k, k ≠ n → k < m → s[k]? = st[k]?
  own : s[m]? = some (some ds)
theorem Own.new {Z : Int} {n : Nat} {st s : Sto} (h : Bag Z n s) (u : Upd n st s) : Own Z n st.length st (s ++ [some []]) [] := by
  have hn := h.lt
  refine ⟨?_, by simp [u.len], fun k h1 h2 => ?_, by rw [← u.len]; simp⟩
  · obtain ⟨r, b, t, e, p⟩ := h
    exact ⟨r, b, t, by rw [List.getElem?_append_left hn]; exact e, p⟩
  · rw [List.getElem?_append_left (by rw [u.len]; exact h2)]
    exact u.oth k h1
theorem Own.upd {Y Z : Int} {n m : Nat} {st s s2 : Sto} {ds : List PyData} (o : Own Y n m st s ds) (hn : n < m) (h : Bag Z n s2) (u : Upd n s s2) : Own Z n m st s2 ds :=
  ⟨h, u.len.trans o.len, fun k h1 h2 => (u.oth k h1).trans (o.oth k h1 h2), (u.oth m (by omega)).trans o.own⟩
theorem Own.put {Z : Int} {n m : Nat} {st s : Sto} {ds es : List PyData} (o : Own Z n m st s ds) (hn : n < m) : Own Z n m st (s.set m (some es)) es := by
  refine ⟨?_, by rw [List.length_set]; exact o.len, fun k h1 h2 => by rw [List.getElem?_set_ne (by omega)]; exact o.oth k h1 h2, List.getElem?_set_self (by rw [o.len]; omega)⟩
  obtain ⟨r, b, t, e, p⟩ := o.bag
  exact ⟨r, b, t, by rw [List.getElem?_set_ne (by omega)]; exact e, p⟩
theorem Own.mono {Y Z : Int} {n m : Nat} {st s : Sto} {ds : List PyData} (o : Own Y n m st s ds) (l : Y ≤ Z) : Own Z n m st s ds := ⟨o.bag.mono l, o.len, o.oth, o.own⟩
theorem Own.end_ {Z : Int} {n : Nat} {st s : Sto} {ds : List PyData} (o : Own Z n st.length st s ds) (hn : n < st.length) : Upd n st (s.take st.length) ∧ Bag Z n (s.take st.length) := by
  refine ⟨⟨by rw [List.length_take, o.len]; omega, fun k h => ?_⟩, o.bag.take hn⟩
  by_cases hk : k < st.length
  · rw [List.getElem?_take_of_lt hk]
    exact o.oth k h hk
  · rw [List.getElem?_eq_none (by rw [List.length_take, o.len]; omega), List.getElem?_eq_none (by omega)]
theorem Own.at_ {Z : Int} {n m : Nat} {st s : Sto} {ds : List PyData} (o : Own Z n m st s ds) : lstAt s m = some ds := lstAt_of o.own
theorem opts_of {ys : List PyData} {zs : List Int} (hl : ys.length = zs.length) (h : ∀ (i : Nat) y, ys[i]? = some y → ∃ o : Option Int, y = optD o ∧ ∀ x z, o = some x → zs[i]? = some z → 0 ≤ x ∧ x < z) : ∃ ps, ys = ps.map optD ∧ PFits zs ps := by
  induction ys generalizing zs with
  | nil => exact ⟨[], rfl, by simpa using hl, fun i x z e => by simp at e⟩
  | cons y ys ih =>
    cases zs with
    | nil => simp at hl
    | cons z zs =>
      obtain ⟨ps, rfl, hp⟩ := ih (zs := zs) (by simpa using hl) fun i y e => h (i + 1) y (by simpa using e)
      obtain ⟨o, rfl, ho⟩ := h 0 y rfl
      refine ⟨o :: ps, rfl, by simp [hp.1], fun i x z' e1 e2 => ?_⟩
      cases i with
      | zero => exact ho x z' (by simpa using e1) e2
      | succ i => exact hp.2 i x z' (by simpa using e1) (by simpa using e2)
theorem partial_ok {Z : Int} {n : Nat} {st : Sto} {zs : List Int} (h : Bag Z n st) (hZ : Z < 2 ^ 58) (hz : Sheet zs) :
    Ok (g_law_draw_partial [.c n, .d (rowD zs)] st) fun w s => ∃ ps, w = .d (partD ps) ∧ PFits zs ps ∧ Upd n st s ∧ Bag (Z + 20) n s := by
  have hn := h.lt
  have hz8 := hz.2.1
  have hb := line8
  unfold g_law_draw_partial rowD
  simp only [Ss.ev, S.ev, Sm.ev, T.ev, T.evF, EF.B.ev, I.ev, As.ev, Ws.ev, O.ev, BOp.d, COp.d, F1.d, ok_seq, ok_ifS, ok_set1, ok_setS, ok_ret, ok_retn, ok_drop, ok_par, ok_putX, ok_new, ok_retc, ok_setc, ok_skip, ok_brk, ok_cnt, then_nx, then_rt, then_bk, then_ct, ok_rdV, ok_bin2, ok_un1, ok_k, ok_asB, isB_b, ok_andX, ok_orX, ok_notX, ok_andB, ok_orB, ok_notB, ok_iteX, ok_nilX, ok_consX, ok_tupX, ok_fitX, ok_lsX, ok_cixX, ok_rdC, contD_c, contD_s, at3_0, at3_1, at3_2, ix3_0, ix3_1, ix3_2, isI_i, ok_someO, ok_noO, ok_sliX, ok_csliX, ok_rdCV, ok_tyX, ok_isiX, ok_chn, ok_nilW, ok_consW, ok_datW, ok_celW, ok_callX, isD_d, isP_p, ok_appX, ok_bind, ok_pure, ok_ofOpt, oko_some, oko_none, slotD_d, slotC_c, o_add, o_sub, o_mul, o_fdiv, o_pow, o_mod, o_lt, o_le, o_gt, o_ge, o_eq, o_ne, o_int, List.getElem?_cons_zero, List.getElem?_cons_succ, List.set_cons_zero, List.set_cons_succ, Nat.reduceAdd, List.set_cons_zero, exists_eq_left, exists_eq_left', end_d, end_nx, end_c, Option.some.injEq, decide_eq_true_eq, decide_eq_false_iff_not, ok_anyI, seq_t, seq_l, ok_rng1, ok_enum, ok_lcF, ok_forS, put_nm, put_tp2, put_tp3, wipeR, startR, List.map_cons, List.map_nil, List.length_cons, List.length_nil, List.replicate, List.cons_append, List.nil_append, true_implies, false_implies, forall_const, and_true, true_and, and_false, false_and, Bool.false_eq_true, Bool.true_eq_false, Bool.not_true, Bool.not_false, Bool.not_eq_true', Bool.not_eq_false', Bool.not_eq_eq_eq_not, isi_int, isi_intb, if_true, Bool.if_true_left, ok_callKX, o_catt, o_catl, o_slit, o_slil, ok_fn, turn_nx, turn_rt, ok_some, b_law_draw_partial]
  refine (take_ok h (by omega) (by omega) (by omega)).mono ?_
  rintro _ s1 ⟨way, rfl, w1, w2, u1, h1⟩
  simp only [Ss.ev, S.ev, Sm.ev, T.ev, T.evF, EF.B.ev, I.ev, As.ev, Ws.ev, O.ev, BOp.d, COp.d, F1.d, ok_seq, ok_ifS, ok_set1, ok_setS, ok_ret, ok_retn, ok_drop, ok_par, ok_putX, ok_new, ok_retc, ok_setc, ok_skip, ok_brk, ok_cnt, then_nx, then_rt, then_bk, then_ct, ok_rdV, ok_bin2, ok_un1, ok_k, ok_asB, isB_b, ok_andX, ok_orX, ok_notX, ok_andB, ok_orB, ok_notB, ok_iteX, ok_nilX, ok_consX, ok_tupX, ok_fitX, ok_lsX, ok_cixX, ok_rdC, contD_c, contD_s, at3_0, at3_1, at3_2, ix3_0, ix3_1, ix3_2, isI_i, ok_someO, ok_noO, ok_sliX, ok_csliX, ok_rdCV, ok_tyX, ok_isiX, ok_chn, ok_nilW, ok_consW, ok_datW, ok_celW, ok_callX, isD_d, isP_p, ok_appX, ok_bind, ok_pure, ok_ofOpt, oko_some, oko_none, slotD_d, slotC_c, o_add, o_sub, o_mul, o_fdiv, o_pow, o_mod, o_lt, o_le, o_gt, o_ge, o_eq, o_ne, o_int, List.getElem?_cons_zero, List.getElem?_cons_succ, List.set_cons_zero, List.set_cons_succ, Nat.reduceAdd, List.set_cons_zero, exists_eq_left, exists_eq_left', end_d, end_nx, end_c, Option.some.injEq, decide_eq_true_eq, decide_eq_false_iff_not, ok_anyI, seq_t, seq_l, ok_rng1, ok_enum, ok_lcF, ok_forS, put_nm, put_tp2, put_tp3, wipeR, startR, List.map_cons, List.map_nil, List.length_cons, List.length_nil, List.replicate, List.cons_append, List.nil_append, true_implies, false_implies, forall_const, and_true, true_and, and_false, false_and, Bool.false_eq_true, Bool.true_eq_false, Bool.not_true, Bool.not_false, Bool.not_eq_true', Bool.not_eq_false', Bool.not_eq_eq_eq_not, isi_int, isi_intb, if_true, Bool.if_true_left, ok_callKX, o_catt, o_catl, o_slit, o_slil, ok_fn, turn_nx, turn_rt, ok_some, u1.len]
  refine ⟨by omega, ?_⟩
  refine for_st (k := 0) (fun i ρ s => ∃ (v : Option W) (ds : List PyData), ρ = [some (.c n), some (.d (.tuple (zs.map .int))), some (.d (.int way)), some (.c st.length), v] ∧ Own (Z + 1 + 2 * i) n st.length st s ds ∧ ds.length = i ∧
    ∀ (j : Nat) y, ds[j]? = some y → ∃ o : Option Int, y = optD o ∧ ∀ x z, o = some x → zs[j]? = some z → 0 ≤ x ∧ x < z) (fun i d ρ s hd hI => ?_) (fun ρ s hI => ?_) ⟨_, [], rfl, (Own.new h1 u1).mono (by omega), rfl, fun j y e => by simp at e⟩
  · obtain ⟨v, ds, rfl, o, hl, hR⟩ := hI
    rw [List.getElem?_map] at hd
    cases e : zs[i]? with
    | none => rw [e] at hd; cases hd
    | some z =>
      rw [e] at hd
      cases hd
      have hi : i < zs.length := (List.getElem?_eq_some_iff.mp e).1
      have hz1 := hz.2.2 z (List.mem_of_getElem? e)
      rw [Nat.zero_add] at o hl
      have step : ∀ {s' : Sto} {Y : Int} (o' : Option Int), Own Y n st.length st s' ds → Y ≤ Z + 1 + 2 * ((i : Int) + 1) → (∀ x, o' = some x → 0 ≤ x ∧ x < z) → ds.length < sizeLine ∧ ∃ (v : Option W) (es : List PyData),
          ([some (.c n), some (.d (.tuple (zs.map .int))), some (.d (.int way)), some (.c st.length), some (.d (.int z))] : Rho) = [some (.c n), some (.d (.tuple (zs.map .int))), some (.d (.int way)), some (.c st.length), v] ∧
          Own (Z + 1 + 2 * ((0 + i + 1 : Nat) : Int)) n st.length st (s'.set st.length (some (ds ++ [optD o']))) es ∧ es.length = 0 + i + 1 ∧ ∀ (j : Nat) y, es[j]? = some y → ∃ o : Option Int, y = optD o ∧ ∀ x z, o = some x → zs[j]? = some z → 0 ≤ x ∧ x < z := fun {s' Y} o' ho hY hx => by
        refine ⟨by omega, _, ds ++ [optD o'], rfl, (ho.put hn).mono (by omega), by rw [List.length_append, hl]; simp, fun j y ej => ?_⟩
        by_cases hj : j < ds.length
        · rw [List.getElem?_append_left hj] at ej
          exact hR j y ej
        · have hj2 : j = ds.length := by
            have := (List.getElem?_eq_some_iff.mp ej).1
            rw [List.length_append] at this
            simp at this
            omega
          subst hj2
          rw [List.getElem?_append_right (Nat.le_refl _), Nat.sub_self] at ej
          cases ej
          refine ⟨o', rfl, fun x z' ex ez => ?_⟩
          rw [hl, e] at ez
          cases ez
          exact hx x ex
      simp only [Ss.ev, S.ev, Sm.ev, T.ev, T.evF, EF.B.ev, I.ev, As.ev, Ws.ev, O.ev, BOp.d, COp.d, F1.d, ok_seq, ok_ifS, ok_set1, ok_setS, ok_ret, ok_retn, ok_drop, ok_par, ok_putX, ok_new, ok_retc, ok_setc, ok_skip, ok_brk, ok_cnt, then_nx, then_rt, then_bk, then_ct, ok_rdV, ok_bin2, ok_un1, ok_k, ok_asB, isB_b, ok_andX, ok_orX, ok_notX, ok_andB, ok_orB, ok_notB, ok_iteX, ok_nilX, ok_consX, ok_tupX, ok_fitX, ok_lsX, ok_cixX, ok_rdC, contD_c, contD_s, at3_0, at3_1, at3_2, ix3_0, ix3_1, ix3_2, isI_i, ok_someO, ok_noO, ok_sliX, ok_csliX, ok_rdCV, ok_tyX, ok_isiX, ok_chn, ok_nilW, ok_consW, ok_datW, ok_celW, ok_callX, isD_d, isP_p, ok_appX, ok_bind, ok_pure, ok_ofOpt, oko_some, oko_none, slotD_d, slotC_c, o_add, o_sub, o_mul, o_fdiv, o_pow, o_mod, o_lt, o_le, o_gt, o_ge, o_eq, o_ne, o_int, List.getElem?_cons_zero, List.getElem?_cons_succ, List.set_cons_zero, List.set_cons_succ, Nat.reduceAdd, List.set_cons_zero, exists_eq_left, exists_eq_left', end_d, end_nx, end_c, Option.some.injEq, decide_eq_true_eq, decide_eq_false_iff_not, ok_anyI, seq_t, seq_l, ok_rng1, ok_enum, ok_lcF, ok_forS, put_nm, put_tp2, put_tp3, wipeR, startR, List.map_cons, List.map_nil, List.length_cons, List.length_nil, List.replicate, List.cons_append, List.nil_append, true_implies, false_implies, forall_const, and_true, true_and, and_false, false_and, Bool.false_eq_true, Bool.true_eq_false, Bool.not_true, Bool.not_false, Bool.not_eq_true', Bool.not_eq_false', Bool.not_eq_eq_eq_not, isi_int, isi_intb, if_true, Bool.if_true_left, ok_callKX, o_catt, o_catl, o_slit, o_slil, ok_fn, turn_nx, turn_rt, ok_some, o.at_]
      refine ⟨fun _ => step none o (by omega) (fun x e => by cases e), fun _ => ?_⟩
      refine (take_ok o.bag (by omega) (by omega) (by omega)).mono ?_
      rintro _ s2 ⟨d, rfl, d1, d2, u2, h2⟩
      have o2 := o.upd hn h2 u2
      simp only [Ss.ev, S.ev, Sm.ev, T.ev, T.evF, EF.B.ev, I.ev, As.ev, Ws.ev, O.ev, BOp.d, COp.d, F1.d, ok_seq, ok_ifS, ok_set1, ok_setS, ok_ret, ok_retn, ok_drop, ok_par, ok_putX, ok_new, ok_retc, ok_setc, ok_skip, ok_brk, ok_cnt, then_nx, then_rt, then_bk, then_ct, ok_rdV, ok_bin2, ok_un1, ok_k, ok_asB, isB_b, ok_andX, ok_orX, ok_notX, ok_andB, ok_orB, ok_notB, ok_iteX, ok_nilX, ok_consX, ok_tupX, ok_fitX, ok_lsX, ok_cixX, ok_rdC, contD_c, contD_s, at3_0, at3_1, at3_2, ix3_0, ix3_1, ix3_2, isI_i, ok_someO, ok_noO, ok_sliX, ok_csliX, ok_rdCV, ok_tyX, ok_isiX, ok_chn, ok_nilW, ok_consW, ok_datW, ok_celW, ok_callX, isD_d, isP_p, ok_appX, ok_bind, ok_pure, ok_ofOpt, oko_some, oko_none, slotD_d, slotC_c, o_add, o_sub, o_mul, o_fdiv, o_pow, o_mod, o_lt, o_le, o_gt, o_ge, o_eq, o_ne, o_int, List.getElem?_cons_zero, List.getElem?_cons_succ, List.set_cons_zero, List.set_cons_succ, Nat.reduceAdd, List.set_cons_zero, exists_eq_left, exists_eq_left', end_d, end_nx, end_c, Option.some.injEq, decide_eq_true_eq, decide_eq_false_iff_not, ok_anyI, seq_t, seq_l, ok_rng1, ok_enum, ok_lcF, ok_forS, put_nm, put_tp2, put_tp3, wipeR, startR, List.map_cons, List.map_nil, List.length_cons, List.length_nil, List.replicate, List.cons_append, List.nil_append, true_implies, false_implies, forall_const, and_true, true_and, and_false, false_and, Bool.false_eq_true, Bool.true_eq_false, Bool.not_true, Bool.not_false, Bool.not_eq_true', Bool.not_eq_false', Bool.not_eq_eq_eq_not, isi_int, isi_intb, if_true, Bool.if_true_left, ok_callKX, o_catt, o_catl, o_slit, o_slil, ok_fn, turn_nx, turn_rt, ok_some, o2.at_]
      refine ⟨fun _ => step none o2 (by omega) (fun x e => by cases e), fun _ => ?_⟩
      refine (take_ok o2.bag (by omega) (by omega) (by omega)).mono ?_
      rintro _ s3 ⟨d', rfl, d1', d2', u3, h3⟩
      have o3 := o2.upd hn h3 u3
      simp only [Ss.ev, S.ev, Sm.ev, T.ev, T.evF, EF.B.ev, I.ev, As.ev, Ws.ev, O.ev, BOp.d, COp.d, F1.d, ok_seq, ok_ifS, ok_set1, ok_setS, ok_ret, ok_retn, ok_drop, ok_par, ok_putX, ok_new, ok_retc, ok_setc, ok_skip, ok_brk, ok_cnt, then_nx, then_rt, then_bk, then_ct, ok_rdV, ok_bin2, ok_un1, ok_k, ok_asB, isB_b, ok_andX, ok_orX, ok_notX, ok_andB, ok_orB, ok_notB, ok_iteX, ok_nilX, ok_consX, ok_tupX, ok_fitX, ok_lsX, ok_cixX, ok_rdC, contD_c, contD_s, at3_0, at3_1, at3_2, ix3_0, ix3_1, ix3_2, isI_i, ok_someO, ok_noO, ok_sliX, ok_csliX, ok_rdCV, ok_tyX, ok_isiX, ok_chn, ok_nilW, ok_consW, ok_datW, ok_celW, ok_callX, isD_d, isP_p, ok_appX, ok_bind, ok_pure, ok_ofOpt, oko_some, oko_none, slotD_d, slotC_c, o_add, o_sub, o_mul, o_fdiv, o_pow, o_mod, o_lt, o_le, o_gt, o_ge, o_eq, o_ne, o_int, List.getElem?_cons_zero, List.getElem?_cons_succ, List.set_cons_zero, List.set_cons_succ, Nat.reduceAdd, List.set_cons_zero, exists_eq_left, exists_eq_left', end_d, end_nx, end_c, Option.some.injEq, decide_eq_true_eq, decide_eq_false_iff_not, ok_anyI, seq_t, seq_l, ok_rng1, ok_enum, ok_lcF, ok_forS, put_nm, put_tp2, put_tp3, wipeR, startR, List.map_cons, List.map_nil, List.length_cons, List.length_nil, List.replicate, List.cons_append, List.nil_append, true_implies, false_implies, forall_const, and_true, true_and, and_false, false_and, Bool.false_eq_true, Bool.true_eq_false, Bool.not_true, Bool.not_false, Bool.not_eq_true', Bool.not_eq_false', Bool.not_eq_eq_eq_not, isi_int, isi_intb, if_true, Bool.if_true_left, ok_callKX, o_catt, o_catl, o_slit, o_slil, ok_fn, turn_nx, turn_rt, ok_some, o3.at_]
      exact step (some d') o3 (by omega) (fun x e => by cases e; exact ⟨d1', d2'⟩)
  · obtain ⟨v, ds, rfl, o, hl, hR⟩ := hI
    rw [Nat.zero_add, List.length_map] at o hl
    obtain ⟨ps, rfl, hp⟩ := opts_of hl hR
    obtain ⟨u, hb'⟩ := o.end_ hn
    simp only [Ss.ev, S.ev, Sm.ev, T.ev, T.evF, EF.B.ev, I.ev, As.ev, Ws.ev, O.ev, BOp.d, COp.d, F1.d, ok_seq, ok_ifS, ok_set1, ok_setS, ok_ret, ok_retn, ok_drop, ok_par, ok_putX, ok_new, ok_retc, ok_setc, ok_skip, ok_brk, ok_cnt, then_nx, then_rt, then_bk, then_ct, ok_rdV, ok_bin2, ok_un1, ok_k, ok_asB, isB_b, ok_andX, ok_orX, ok_notX, ok_andB, ok_orB, ok_notB, ok_iteX, ok_nilX, ok_consX, ok_tupX, ok_fitX, ok_lsX, ok_cixX, ok_rdC, contD_c, contD_s, at3_0, at3_1, at3_2, ix3_0, ix3_1, ix3_2, isI_i, ok_someO, ok_noO, ok_sliX, ok_csliX, ok_rdCV, ok_tyX, ok_isiX, ok_chn, ok_nilW, ok_consW, ok_datW, ok_celW, ok_callX, isD_d, isP_p, ok_appX, ok_bind, ok_pure, ok_ofOpt, oko_some, oko_none, slotD_d, slotC_c, o_add, o_sub, o_mul, o_fdiv, o_pow, o_mod, o_lt, o_le, o_gt, o_ge, o_eq, o_ne, o_int, List.getElem?_cons_zero, List.getElem?_cons_succ, List.set_cons_zero, List.set_cons_succ, Nat.reduceAdd, List.set_cons_zero, exists_eq_left, exists_eq_left', end_d, end_nx, end_c, Option.some.injEq, decide_eq_true_eq, decide_eq_false_iff_not, ok_anyI, seq_t, seq_l, ok_rng1, ok_enum, ok_lcF, ok_forS, put_nm, put_tp2, put_tp3, wipeR, startR, List.map_cons, List.map_nil, List.length_cons, List.length_nil, List.replicate, List.cons_append, List.nil_append, true_implies, false_implies, forall_const, and_true, true_and, and_false, false_and, Bool.false_eq_true, Bool.true_eq_false, Bool.not_true, Bool.not_false, Bool.not_eq_true', Bool.not_eq_false', Bool.not_eq_eq_eq_not, isi_int, isi_intb, if_true, Bool.if_true_left, ok_callKX, o_catt, o_catl, o_slit, o_slil, ok_fn, turn_nx, turn_rt, ok_some, o.at_, tup_l]
    exact ⟨ps, rfl, hp, u, hb'.mono (by omega)⟩
end K06

set_option Elab.async false
set_option linter.all false
set_option maxRecDepth 100000
set_option maxHeartbeats 2000000
namespace K06
open PySem PySem.Spec PyProof.Rows L2 EF
theorem Fits.at_ {zs xs : List Int} (h : Fits zs xs) {i : Nat} {z : Int} (e : zs[i]? = some z) : ∃ x, xs[i]? = some x ∧ 0 ≤ x ∧ x < z := by
  have hl : xs.length = zs.length := by simpa using h.1
  have hi : i < xs.length := by rw [hl]; exact (List.getElem?_eq_some_iff.mp e).1
  refine ⟨xs[i], List.getElem?_eq_getElem hi, h.2 i _ z ?_ e⟩
  rw [List.getElem?_map, List.getElem?_eq_getElem hi]
  rfl
theorem map_int {xs : List Int} {i : Nat} {x : Int} (h : xs[i]? = some x) : (xs.map PyData.int)[i]? = some (.int x) := by
  rw [List.getElem?_map, h]; rfl
theorem near_ok {Z : Int} {n : Nat} {st : Sto} {zs xs : List Int} (h : Bag Z n st) (hZ : Z < 2 ^ 58) (hz : Sheet zs) (hx : Fits zs xs) :
    Ok (g_law_near [.c n, .d (rowD zs), .d (rowD xs)] st) fun w s => ∃ ys : List Int, w = .d (rowD ys) ∧ Fits zs ys ∧ Upd n st s ∧ Bag (Z + 20) n s := by
  have hn := h.lt
  have hz8 := hz.2.1
  have hb := line8
  unfold g_law_near rowD
  simp only [Ss.ev, S.ev, Sm.ev, T.ev, T.evF, EF.B.ev, I.ev, As.ev, Ws.ev, O.ev, BOp.d, COp.d, F1.d, ok_seq, ok_ifS, ok_set1, ok_setS, ok_ret, ok_retn, ok_drop, ok_par, ok_putX, ok_new, ok_retc, ok_setc, ok_skip, ok_brk, ok_cnt, then_nx, then_rt, then_bk, then_ct, ok_rdV, ok_bin2, ok_un1, ok_k, ok_asB, isB_b, ok_andX, ok_orX, ok_notX, ok_andB, ok_orB, ok_notB, ok_iteX, ok_nilX, ok_consX, ok_tupX, ok_fitX, ok_lsX, ok_cixX, ok_rdC, contD_c, contD_s, at3_0, at3_1, at3_2, ix3_0, ix3_1, ix3_2, isI_i, ok_someO, ok_noO, ok_sliX, ok_csliX, ok_rdCV, ok_tyX, ok_isiX, ok_chn, ok_nilW, ok_consW, ok_datW, ok_celW, ok_callX, isD_d, isP_p, ok_appX, ok_bind, ok_pure, ok_ofOpt, oko_some, oko_none, slotD_d, slotC_c, o_add, o_sub, o_mul, o_fdiv, o_pow, o_mod, o_lt, o_le, o_gt, o_ge, o_eq, o_ne, o_int, List.getElem?_cons_zero, List.getElem?_cons_succ, List.set_cons_zero, List.set_cons_succ, Nat.reduceAdd, List.set_cons_zero, exists_eq_left, exists_eq_left', end_d, end_nx, end_c, Option.some.injEq, decide_eq_true_eq, decide_eq_false_iff_not, ok_anyI, seq_t, seq_l, ok_rng1, ok_enum, ok_lcF, ok_forS, put_nm, put_tp2, put_tp3, wipeR, startR, List.map_cons, List.map_nil, List.length_cons, List.length_nil, List.replicate, List.cons_append, List.nil_append, true_implies, false_implies, forall_const, and_true, true_and, and_false, false_and, Bool.false_eq_true, Bool.true_eq_false, Bool.not_true, Bool.not_false, Bool.not_eq_true', Bool.not_eq_false', Bool.not_eq_eq_eq_not, isi_int, isi_intb, if_true, Bool.if_true_left, ok_callKX, o_catt, o_catl, o_slit, o_slil, ok_fn, turn_nx, turn_rt, ok_some, b_law_near]
  refine (take_ok h (by omega) (by omega) (by omega)).mono ?_
  rintro _ s1 ⟨rate, rfl, w1, w2, u1, h1⟩
  simp only [Ss.ev, S.ev, Sm.ev, T.ev, T.evF, EF.B.ev, I.ev, As.ev, Ws.ev, O.ev, BOp.d, COp.d, F1.d, ok_seq, ok_ifS, ok_set1, ok_setS, ok_ret, ok_retn, ok_drop, ok_par, ok_putX, ok_new, ok_retc, ok_setc, ok_skip, ok_brk, ok_cnt, then_nx, then_rt, then_bk, then_ct, ok_rdV, ok_bin2, ok_un1, ok_k, ok_asB, isB_b, ok_andX, ok_orX, ok_notX, ok_andB, ok_orB, ok_notB, ok_iteX, ok_nilX, ok_consX, ok_tupX, ok_fitX, ok_lsX, ok_cixX, ok_rdC, contD_c, contD_s, at3_0, at3_1, at3_2, ix3_0, ix3_1, ix3_2, isI_i, ok_someO, ok_noO, ok_sliX, ok_csliX, ok_rdCV, ok_tyX, ok_isiX, ok_chn, ok_nilW, ok_consW, ok_datW, ok_celW, ok_callX, isD_d, isP_p, ok_appX, ok_bind, ok_pure, ok_ofOpt, oko_some, oko_none, slotD_d, slotC_c, o_add, o_sub, o_mul, o_fdiv, o_pow, o_mod, o_lt, o_le, o_gt, o_ge, o_eq, o_ne, o_int, List.getElem?_cons_zero, List.getElem?_cons_succ, List.set_cons_zero, List.set_cons_succ, Nat.reduceAdd, List.set_cons_zero, exists_eq_left, exists_eq_left', end_d, end_nx, end_c, Option.some.injEq, decide_eq_true_eq, decide_eq_false_iff_not, ok_anyI, seq_t, seq_l, ok_rng1, ok_enum, ok_lcF, ok_forS, put_nm, put_tp2, put_tp3, wipeR, startR, List.map_cons, List.map_nil, List.length_cons, List.length_nil, List.replicate, List.cons_append, List.nil_append, true_implies, false_implies, forall_const, and_true, true_and, and_false, false_and, Bool.false_eq_true, Bool.true_eq_false, Bool.not_true, Bool.not_false, Bool.not_eq_true', Bool.not_eq_false', Bool.not_eq_eq_eq_not, isi_int, isi_intb, if_true, Bool.if_true_left, ok_callKX, o_catt, o_catl, o_slit, o_slil, ok_fn, turn_nx, turn_rt, ok_some, u1.len, len_t, List.length_map]
  refine ⟨by omega, small_ok (by omega) (by omega), ?_⟩
  refine for_st (k := 0) (fun i ρ s => ∃ (v : Option W) (ds : List Int), ρ = [some (.c n), some (.d (.tuple (zs.map .int))), some (.d (.tuple (xs.map .int))), some (.d (.int (1 + rate))), some (.c st.length), v] ∧ Own (Z + 1 + 2 * i) n st.length st s (ds.map .int) ∧ ds.length = i ∧
    ∀ (j : Nat) x z, ds[j]? = some x → zs[j]? = some z → 0 ≤ x ∧ x < z) (fun i d ρ s hd hI => ?_) (fun ρ s hI => ?_) ⟨_, [], rfl, (Own.new h1 u1).mono (by omega), rfl, fun j x z e => by simp at e⟩
  · obtain ⟨v, ds, rfl, o, hl, hR⟩ := hI
    obtain ⟨hi, rfl⟩ := rng_mem hd
    have hi' : i < zs.length := by omega
    obtain ⟨z, e⟩ : ∃ z, zs[i]? = some z := ⟨_, List.getElem?_eq_getElem hi'⟩
    obtain ⟨x, ex, x0, x1⟩ := hx.at_ e
    have hz1 := hz.2.2 z (List.mem_of_getElem? e)
    rw [Nat.zero_add] at o hl
    have step : ∀ {s' : Sto} {Y : Int} (o' : Int), Own Y n st.length st s' (ds.map .int) → Y ≤ Z + 1 + 2 * ((i : Int) + 1) → 0 ≤ o' ∧ o' < z → ds.length < sizeLine ∧ ∃ (v : Option W) (es : List Int),
        ([some (.c n), some (.d (.tuple (zs.map .int))), some (.d (.tuple (xs.map .int))), some (.d (.int (1 + rate))), some (.c st.length), some (.d (.int (i : Int)))] : Rho) = [some (.c n), some (.d (.tuple (zs.map .int))), some (.d (.tuple (xs.map .int))), some (.d (.int (1 + rate))), some (.c st.length), v] ∧
        Own (Z + 1 + 2 * ((0 + i + 1 : Nat) : Int)) n st.length st (s'.set st.length (some (ds.map PyData.int ++ [PyData.int o']))) (es.map .int) ∧ es.length = 0 + i + 1 ∧ ∀ (j : Nat) x z, es[j]? = some x → zs[j]? = some z → 0 ≤ x ∧ x < z := fun {s' Y} o' ho hY hx => by
      refine ⟨by omega, _, ds ++ [o'], rfl, ?_, by rw [List.length_append, hl]; simp, fun j y z' ej ez => ?_⟩
      · rw [List.map_append]
        exact (ho.put hn).mono (by omega)
      by_cases hj : j < ds.length
      · rw [List.getElem?_append_left hj] at ej
        exact hR j y z' ej ez
      · have hj2 : j = ds.length := by
          have := (List.getElem?_eq_some_iff.mp ej).1
          rw [List.length_append] at this
          simp at this
          omega
        subst hj2
        rw [List.getElem?_append_right (Nat.le_refl _), Nat.sub_self] at ej
        cases ej
        rw [hl, e] at ez
        cases ez
        exact hx
    simp only [Ss.ev, S.ev, Sm.ev, T.ev, T.evF, EF.B.ev, I.ev, As.ev, Ws.ev, O.ev, BOp.d, COp.d, F1.d, ok_seq, ok_ifS, ok_set1, ok_setS, ok_ret, ok_retn, ok_drop, ok_par, ok_putX, ok_new, ok_retc, ok_setc, ok_skip, ok_brk, ok_cnt, then_nx, then_rt, then_bk, then_ct, ok_rdV, ok_bin2, ok_un1, ok_k, ok_asB, isB_b, ok_andX, ok_orX, ok_notX, ok_andB, ok_orB, ok_notB, ok_iteX, ok_nilX, ok_consX, ok_tupX, ok_fitX, ok_lsX, ok_cixX, ok_rdC, contD_c, contD_s, at3_0, at3_1, at3_2, ix3_0, ix3_1, ix3_2, isI_i, ok_someO, ok_noO, ok_sliX, ok_csliX, ok_rdCV, ok_tyX, ok_isiX, ok_chn, ok_nilW, ok_consW, ok_datW, ok_celW, ok_callX, isD_d, isP_p, ok_appX, ok_bind, ok_pure, ok_ofOpt, oko_some, oko_none, slotD_d, slotC_c, o_add, o_sub, o_mul, o_fdiv, o_pow, o_mod, o_lt, o_le, o_gt, o_ge, o_eq, o_ne, o_int, List.getElem?_cons_zero, List.getElem?_cons_succ, List.set_cons_zero, List.set_cons_succ, Nat.reduceAdd, List.set_cons_zero, exists_eq_left, exists_eq_left', end_d, end_nx, end_c, Option.some.injEq, decide_eq_true_eq, decide_eq_false_iff_not, ok_anyI, seq_t, seq_l, ok_rng1, ok_enum, ok_lcF, ok_forS, put_nm, put_tp2, put_tp3, wipeR, startR, List.map_cons, List.map_nil, List.length_cons, List.length_nil, List.replicate, List.cons_append, List.nil_append, true_implies, false_implies, forall_const, and_true, true_and, and_false, false_and, Bool.false_eq_true, Bool.true_eq_false, Bool.not_true, Bool.not_false, Bool.not_eq_true', Bool.not_eq_false', Bool.not_eq_eq_eq_not, isi_int, isi_intb, if_true, Bool.if_true_left, ok_callKX, o_catt, o_catl, o_slit, o_slil, ok_fn, turn_nx, turn_rt, ok_some]
    refine (take_ok o.bag (by omega) (by omega) (by omega)).mono ?_
    rintro _ s2 ⟨d, rfl, d1, d2, u2, h2⟩
    have o2 := o.upd hn h2 u2
    simp only [Ss.ev, S.ev, Sm.ev, T.ev, T.evF, EF.B.ev, I.ev, As.ev, Ws.ev, O.ev, BOp.d, COp.d, F1.d, ok_seq, ok_ifS, ok_set1, ok_setS, ok_ret, ok_retn, ok_drop, ok_par, ok_putX, ok_new, ok_retc, ok_setc, ok_skip, ok_brk, ok_cnt, then_nx, then_rt, then_bk, then_ct, ok_rdV, ok_bin2, ok_un1, ok_k, ok_asB, isB_b, ok_andX, ok_orX, ok_notX, ok_andB, ok_orB, ok_notB, ok_iteX, ok_nilX, ok_consX, ok_tupX, ok_fitX, ok_lsX, ok_cixX, ok_rdC, contD_c, contD_s, at3_0, at3_1, at3_2, ix3_0, ix3_1, ix3_2, isI_i, ok_someO, ok_noO, ok_sliX, ok_csliX, ok_rdCV, ok_tyX, ok_isiX, ok_chn, ok_nilW, ok_consW, ok_datW, ok_celW, ok_callX, isD_d, isP_p, ok_appX, ok_bind, ok_pure, ok_ofOpt, oko_some, oko_none, slotD_d, slotC_c, o_add, o_sub, o_mul, o_fdiv, o_pow, o_mod, o_lt, o_le, o_gt, o_ge, o_eq, o_ne, o_int, List.getElem?_cons_zero, List.getElem?_cons_succ, List.set_cons_zero, List.set_cons_succ, Nat.reduceAdd, List.set_cons_zero, exists_eq_left, exists_eq_left', end_d, end_nx, end_c, Option.some.injEq, decide_eq_true_eq, decide_eq_false_iff_not, ok_anyI, seq_t, seq_l, ok_rng1, ok_enum, ok_lcF, ok_forS, put_nm, put_tp2, put_tp3, wipeR, startR, List.map_cons, List.map_nil, List.length_cons, List.length_nil, List.replicate, List.cons_append, List.nil_append, true_implies, false_implies, forall_const, and_true, true_and, and_false, false_and, Bool.false_eq_true, Bool.true_eq_false, Bool.not_true, Bool.not_false, Bool.not_eq_true', Bool.not_eq_false', Bool.not_eq_eq_eq_not, isi_int, isi_intb, if_true, Bool.if_true_left, ok_callKX, o_catt, o_catl, o_slit, o_slil, ok_fn, turn_nx, turn_rt, ok_some, o2.at_, o_ixt (map_int e), o_ixt (map_int ex), List.length_map]
    refine ⟨fun _ => ?_, fun _ => step x o2 (by omega) ⟨x0, x1⟩⟩
    refine (take_ok o2.bag (by omega) (by omega) (by omega)).mono ?_
    rintro _ s3 ⟨d', rfl, d1', d2', u3, h3⟩
    have o3 := o2.upd hn h3 u3
    simp only [Ss.ev, S.ev, Sm.ev, T.ev, T.evF, EF.B.ev, I.ev, As.ev, Ws.ev, O.ev, BOp.d, COp.d, F1.d, ok_seq, ok_ifS, ok_set1, ok_setS, ok_ret, ok_retn, ok_drop, ok_par, ok_putX, ok_new, ok_retc, ok_setc, ok_skip, ok_brk, ok_cnt, then_nx, then_rt, then_bk, then_ct, ok_rdV, ok_bin2, ok_un1, ok_k, ok_asB, isB_b, ok_andX, ok_orX, ok_notX, ok_andB, ok_orB, ok_notB, ok_iteX, ok_nilX, ok_consX, ok_tupX, ok_fitX, ok_lsX, ok_cixX, ok_rdC, contD_c, contD_s, at3_0, at3_1, at3_2, ix3_0, ix3_1, ix3_2, isI_i, ok_someO, ok_noO, ok_sliX, ok_csliX, ok_rdCV, ok_tyX, ok_isiX, ok_chn, ok_nilW, ok_consW, ok_datW, ok_celW, ok_callX, isD_d, isP_p, ok_appX, ok_bind, ok_pure, ok_ofOpt, oko_some, oko_none, slotD_d, slotC_c, o_add, o_sub, o_mul, o_fdiv, o_pow, o_mod, o_lt, o_le, o_gt, o_ge, o_eq, o_ne, o_int, List.getElem?_cons_zero, List.getElem?_cons_succ, List.set_cons_zero, List.set_cons_succ, Nat.reduceAdd, List.set_cons_zero, exists_eq_left, exists_eq_left', end_d, end_nx, end_c, Option.some.injEq, decide_eq_true_eq, decide_eq_false_iff_not, ok_anyI, seq_t, seq_l, ok_rng1, ok_enum, ok_lcF, ok_forS, put_nm, put_tp2, put_tp3, wipeR, startR, List.map_cons, List.map_nil, List.length_cons, List.length_nil, List.replicate, List.cons_append, List.nil_append, true_implies, false_implies, forall_const, and_true, true_and, and_false, false_and, Bool.false_eq_true, Bool.true_eq_false, Bool.not_true, Bool.not_false, Bool.not_eq_true', Bool.not_eq_false', Bool.not_eq_eq_eq_not, isi_int, isi_intb, if_true, Bool.if_true_left, ok_callKX, o_catt, o_catl, o_slit, o_slil, ok_fn, turn_nx, turn_rt, ok_some, o3.at_, List.length_map]
    exact step d' o3 (by omega) ⟨d1', d2'⟩
  · obtain ⟨v, ds, rfl, o, hl, hR⟩ := hI
    rw [Nat.zero_add, rngD_len, Int.toNat_natCast] at o hl
    obtain ⟨u, hb'⟩ := o.end_ hn
    simp only [Ss.ev, S.ev, Sm.ev, T.ev, T.evF, EF.B.ev, I.ev, As.ev, Ws.ev, O.ev, BOp.d, COp.d, F1.d, ok_seq, ok_ifS, ok_set1, ok_setS, ok_ret, ok_retn, ok_drop, ok_par, ok_putX, ok_new, ok_retc, ok_setc, ok_skip, ok_brk, ok_cnt, then_nx, then_rt, then_bk, then_ct, ok_rdV, ok_bin2, ok_un1, ok_k, ok_asB, isB_b, ok_andX, ok_orX, ok_notX, ok_andB, ok_orB, ok_notB, ok_iteX, ok_nilX, ok_consX, ok_tupX, ok_fitX, ok_lsX, ok_cixX, ok_rdC, contD_c, contD_s, at3_0, at3_1, at3_2, ix3_0, ix3_1, ix3_2, isI_i, ok_someO, ok_noO, ok_sliX, ok_csliX, ok_rdCV, ok_tyX, ok_isiX, ok_chn, ok_nilW, ok_consW, ok_datW, ok_celW, ok_callX, isD_d, isP_p, ok_appX, ok_bind, ok_pure, ok_ofOpt, oko_some, oko_none, slotD_d, slotC_c, o_add, o_sub, o_mul, o_fdiv, o_pow, o_mod, o_lt, o_le, o_gt, o_ge, o_eq, o_ne, o_int, List.getElem?_cons_zero, List.getElem?_cons_succ, List.set_cons_zero, List.set_cons_succ, Nat.reduceAdd, List.set_cons_zero, exists_eq_left, exists_eq_left', end_d, end_nx, end_c, Option.some.injEq, decide_eq_true_eq, decide_eq_false_iff_not, ok_anyI, seq_t, seq_l, ok_rng1, ok_enum, ok_lcF, ok_forS, put_nm, put_tp2, put_tp3, wipeR, startR, List.map_cons, List.map_nil, List.length_cons, List.length_nil, List.replicate, List.cons_append, List.nil_append, true_implies, false_implies, forall_const, and_true, true_and, and_false, false_and, Bool.false_eq_true, Bool.true_eq_false, Bool.not_true, Bool.not_false, Bool.not_eq_true', Bool.not_eq_false', Bool.not_eq_eq_eq_not, isi_int, isi_intb, if_true, Bool.if_true_left, ok_callKX, o_catt, o_catl, o_slit, o_slil, ok_fn, turn_nx, turn_rt, ok_some, o.at_, tup_l]
    exact ⟨ds, rfl, fits_of hl hR, u, hb'.mono (by omega)⟩
end K06

set_option Elab.async false
set_option linter.all false
set_option maxRecDepth 100000
set_option maxHeartbeats 2000000
namespace K06
open PySem PySem.Spec PyProof.Rows L2 EF
theorem cut_mem {ds : List PyData} {lo hi : Option Int} {d : PyData} (h : d ∈ EF.cutD ds lo hi) : d ∈ ds := by
  unfold EF.cutD at h
  exact List.mem_of_mem_drop (List.mem_of_mem_take h)
theorem cut_len {ds : List PyData} {lo hi : Option Int} : (EF.cutD ds lo hi).length ≤ ds.length := by
  unfold EF.cutD
  rw [List.length_take, List.length_drop]
  omega
theorem cut_lo {ds : List PyData} {k : Nat} (h : k ≤ ds.length) : EF.cutD ds none (some (k : Int)) = ds.take k := by
  unfold EF.cutD
  rw [HT.sIx_none, HT.sIx_nat, Nat.min_eq_left h]
  simp
theorem cut_hi {ds : List PyData} {k : Nat} (h : k + 1 ≤ ds.length) : EF.cutD ds (some ((k : Int) + 1)) none = ds.drop (k + 1) := by
  unfold EF.cutD
  have e : ((k : Int) + 1) = ((k + 1 : Nat) : Int) := by omega
  rw [e, HT.sIx_none, HT.sIx_nat, Nat.min_eq_left h]
  rw [List.take_of_length_le (by rw [List.length_drop]; exact Nat.le_refl _)]
theorem len_row {xs : List Int} {P : PyData → Prop} : OkO (lenD (rowD xs)) P ↔ P (.int xs.length) := by
  unfold rowD
  rw [len_t, List.length_map]
theorem ix_row {xs : List Int} {i : Nat} {x : Int} {P : PyData → Prop} (h : xs[i]? = some x) : OkO (ixD (rowD xs) (.int (i : Int))) P ↔ P (.int x) := o_ixt (map_int h)
theorem ix_part {ps : List (Option Int)} {i : Nat} {o : Option Int} {P : PyData → Prop} (h : ps[i]? = some o) : OkO (ixD (partD ps) (.int (i : Int))) P ↔ P (optD o) := o_ixt (by rw [List.getElem?_map, h]; rfl)
theorem set_part {hs : List (Option Int)} {k : Nat} {v : Int} (h : k < hs.length) : PyData.tuple (EF.cutD (hs.map optD) none (some (k : Int)) ++ [.int v] ++ EF.cutD (hs.map optD) (some ((k : Int) + 1)) none) = partD (hs.set k (some v)) := by
  rw [cut_lo (by rw [List.length_map]; omega), cut_hi (by rw [List.length_map]; omega)]
  unfold partD
  rw [List.set_eq_take_append_cons_drop, if_pos h, List.map_append, List.map_take, List.map_cons, List.map_drop, List.append_assoc]
  rfl
theorem set_fits {zs : List Int} {hs : List (Option Int)} {k : Nat} {v z : Int} (h : PFits zs hs) (hz : zs[k]? = some z) (h1 : 0 ≤ v) (h2 : v < z) : PFits zs (hs.set k (some v)) := by
  refine ⟨by rw [List.length_set]; exact h.1, fun i x z' e1 e2 => ?_⟩
  by_cases e : k = i
  · subst e
    rw [List.getElem?_set_self (by rw [h.1]; exact (List.getElem?_eq_some_iff.mp hz).1)] at e1
    cases e1
    rw [hz] at e2
    cases e2
    exact ⟨h1, h2⟩
  · rw [List.getElem?_set_ne e] at e1
    exact h.2 i x z' e1 e2
theorem PFits.at_ {zs : List Int} {ps : List (Option Int)} (h : PFits zs ps) {i : Nat} (hi : i < zs.length) : ∃ o, ps[i]? = some o := ⟨_, List.getElem?_eq_getElem (by rw [h.1]; exact hi)⟩
/-- the places where the part differs -/
def diff (xs : List Int) (ps : List (Option Int)) : PyData → Bool
  | .int i => match ps[i.toNat]?, xs[i.toNat]? with
    | some (some y), some x => !decide (y = x)
    | _, _ => false
  | _ => false
theorem diff_agr {zs xs : List Int} {ps : List (Option Int)} (hx : Fits zs xs) (hp : PFits zs ps) : (((rngD zs.length 0).filter (diff xs ps)).map id).isEmpty = true ↔ Agr xs ps := by
  rw [List.map_id, List.isEmpty_iff, List.filter_eq_nil_iff]
  constructor
  · intro h i x y e1 e2
    have hi : i < zs.length := by
      rw [← hp.1]
      exact (List.getElem?_eq_some_iff.mp e2).1
    have q := h _ (List.mem_of_getElem? (rngD_at (lo := 0) hi))
    simp only [diff, Int.zero_add, Int.toNat_natCast, e1, e2] at q
    simpa using q
  · intro h d hd
    obtain ⟨i, hi, e⟩ := List.getElem_of_mem hd
    obtain ⟨hi2, rfl⟩ := rng_mem (d := d) (i := i) (n := zs.length) (by rw [List.getElem?_eq_getElem hi, e])
    obtain ⟨o, ho⟩ := hp.at_ hi2
    obtain ⟨x, hx', _⟩ := hx.at_ (List.getElem?_eq_getElem hi2)
    simp only [diff, Int.toNat_natCast, ho, hx']
    cases o with
    | none => simp
    | some y => simp [h i x y hx' ho]
theorem lil_row {zs xs : List Int} (hz : Sheet zs) (h : Fits zs xs) : ∀ d ∈ xs.map PyData.int, lil d := by
  intro d hd
  obtain ⟨x, hx, rfl⟩ := List.mem_map.mp hd
  obtain ⟨i, hi, e⟩ := List.getElem_of_mem hx
  have hl : xs.length = zs.length := by simpa using h.1
  obtain ⟨x', e', h1, h2⟩ := h.at_ (List.getElem?_eq_getElem (i := i) (l := zs) (by omega))
  rw [List.getElem?_eq_getElem hi, e] at e'
  cases e'
  have := hz.2.2 _ (List.getElem_mem (l := zs) (n := i) (by omega))
  exact lil_i h1 (by omega)
theorem mix_fits {zs a b c : List Int} (ha : Fits zs a) (hb : Fits zs b) (hc : Fits zs c) : Fits zs (mix a b c) := by
  have la : a.length = zs.length := by simpa using ha.1
  have lb : b.length = zs.length := by simpa using hb.1
  have lc : c.length = zs.length := by simpa using hc.1
  refine fits_of (by rw [mix_len (by omega) (by omega), la]) fun i x z e1 e2 => ?_
  obtain ⟨x1, q1, r1, r2⟩ := ha.at_ e2
  obtain ⟨x2, q2, _⟩ := hb.at_ e2
  obtain ⟨x3, q3, r3, r4⟩ := hc.at_ e2
  rw [mix_at q1 q2 q3] at e1
  cases e1
  split
  · exact ⟨r1, r2⟩
  · exact ⟨r3, r4⟩
theorem repr_row {zs xs : List Int} (hz : Sheet zs) (h : Fits zs xs) {P : PyData → Prop} : OkO (reprD (rowD xs)) P ↔ P (.str (PyData.shown (rowD xs))) := by
  have hl : xs.length = zs.length := by simpa using h.1
  have := hz.2.1
  exact o_reprt (lil_row hz h) (by rw [List.length_map]; omega)
theorem strOk_row {zs xs : List Int} (hz : Sheet zs) (h : Fits zs xs) : PyData.strOk (PyData.shown (rowD xs)) = true := by
  have hl : xs.length = zs.length := by simpa using h.1
  have := hz.2.1
  exact (repr_t (lil_row hz h) (by rw [List.length_map]; omega)).2
theorem pure_law (ns : List Int) (hl : ns.length ≤ 63) : ∃ st, g_law [.s ns] [] = some (.d (.bool true), st) := by
  have l8 := line8
  suffices h : Ok (g_law [.s ns] []) (fun w _ => w = .d (.bool true)) by
    obtain ⟨w, s, e, rfl⟩ := h
    exact ⟨s, e⟩
  unfold g_law
  simp only [Ss.ev, S.ev, Sm.ev, T.ev, T.evF, EF.B.ev, I.ev, As.ev, Ws.ev, O.ev, BOp.d, COp.d, F1.d, ok_seq, ok_ifS, ok_set1, ok_setS, ok_ret, ok_retn, ok_drop, ok_par, ok_putX, ok_new, ok_retc, ok_setc, ok_skip, ok_brk, ok_cnt, then_nx, then_rt, then_bk, then_ct, ok_rdV, ok_bin2, ok_un1, ok_k, ok_asB, isB_b, ok_andX, ok_orX, ok_notX, ok_andB, ok_orB, ok_notB, ok_iteX, ok_nilX, ok_consX, ok_tupX, ok_fitX, ok_lsX, ok_cixX, ok_rdC, contD_c, contD_s, at3_0, at3_1, at3_2, ix3_0, ix3_1, ix3_2, isI_i, ok_someO, ok_noO, ok_sliX, ok_csliX, ok_rdCV, ok_tyX, ok_isiX, ok_chn, ok_nilW, ok_consW, ok_datW, ok_celW, ok_callX, isD_d, isP_p, ok_appX, ok_bind, ok_pure, ok_ofOpt, oko_some, oko_none, slotD_d, slotC_c, o_add, o_sub, o_mul, o_fdiv, o_pow, o_mod, o_lt, o_le, o_gt, o_ge, o_eq, o_ne, o_int, List.getElem?_cons_zero, List.getElem?_cons_succ, List.set_cons_zero, List.set_cons_succ, Nat.reduceAdd, List.set_cons_zero, exists_eq_left, exists_eq_left', end_d, end_nx, end_c, Option.some.injEq, decide_eq_true_eq, decide_eq_false_iff_not, ok_anyI, seq_t, seq_l, ok_rng1, ok_enum, ok_lcF, ok_forS, put_nm, put_tp2, put_tp3, wipeR, startR, List.map_cons, List.map_nil, List.length_cons, List.length_nil, List.replicate, List.cons_append, List.nil_append, true_implies, false_implies, forall_const, and_true, true_and, and_false, false_and, Bool.false_eq_true, Bool.true_eq_false, Bool.not_true, Bool.not_false, Bool.not_eq_true', Bool.not_eq_false', Bool.not_eq_eq_eq_not, isi_int, isi_intb, if_true, Bool.if_true_left, ok_callKX, o_catt, o_catl, o_slit, o_slil, ok_fn, turn_nx, turn_rt, ok_some, b_law]
  have cl : (EF.cutD (List.map PyData.int ns) none (some 20)).length ≤ 63 := Nat.le_trans cut_len (by rw [List.length_map]; exact hl)
  refine ⟨by decide, ⟨by decide, by decide⟩, by omega, by omega, ?_⟩
  refine for_st (k := 0) (fun _ ρ _ => ∃ x1 x2 x3 x4 x5 x6 x7 x8 x9 x10 x11 x12 x13 x14 x15 x16 x17, ρ = [some (.s ns), x1, x2, x3, x4, x5, x6, x7, x8, x9, x10, x11, x12, x13, x14, x15, x16, x17]) (fun i d ρ s hd hI => ?_) (fun ρ s hI => ?_) ⟨_, _, _, _, _, _, _, _, _, _, _, _, _, _, _, _, _, rfl⟩
  · obtain ⟨x1, x2, x3, x4, x5, x6, x7, x8, x9, x10, x11, x12, x13, x14, x15, x16, x17, rfl⟩ := hI
    obtain ⟨cell, rfl⟩ : ∃ c : Int, d = .int c := by
      have m := List.mem_of_getElem? hd
      rcases List.mem_cons.mp m with rfl | m
      · exact ⟨_, rfl⟩
      · obtain ⟨c, _, e⟩ := List.mem_map.mp (cut_mem m)
        exact ⟨c, e.symm⟩
    simp only [Ss.ev, S.ev, Sm.ev, T.ev, T.evF, EF.B.ev, I.ev, As.ev, Ws.ev, O.ev, BOp.d, COp.d, F1.d, ok_seq, ok_ifS, ok_set1, ok_setS, ok_ret, ok_retn, ok_drop, ok_par, ok_putX, ok_new, ok_retc, ok_setc, ok_skip, ok_brk, ok_cnt, then_nx, then_rt, then_bk, then_ct, ok_rdV, ok_bin2, ok_un1, ok_k, ok_asB, isB_b, ok_andX, ok_orX, ok_notX, ok_andB, ok_orB, ok_notB, ok_iteX, ok_nilX, ok_consX, ok_tupX, ok_fitX, ok_lsX, ok_cixX, ok_rdC, contD_c, contD_s, at3_0, at3_1, at3_2, ix3_0, ix3_1, ix3_2, isI_i, ok_someO, ok_noO, ok_sliX, ok_csliX, ok_rdCV, ok_tyX, ok_isiX, ok_chn, ok_nilW, ok_consW, ok_datW, ok_celW, ok_callX, isD_d, isP_p, ok_appX, ok_bind, ok_pure, ok_ofOpt, oko_some, oko_none, slotD_d, slotC_c, o_add, o_sub, o_mul, o_fdiv, o_pow, o_mod, o_lt, o_le, o_gt, o_ge, o_eq, o_ne, o_int, List.getElem?_cons_zero, List.getElem?_cons_succ, List.set_cons_zero, List.set_cons_succ, Nat.reduceAdd, List.set_cons_zero, exists_eq_left, exists_eq_left', end_d, end_nx, end_c, Option.some.injEq, decide_eq_true_eq, decide_eq_false_iff_not, ok_anyI, seq_t, seq_l, ok_rng1, ok_enum, ok_lcF, ok_forS, put_nm, put_tp2, put_tp3, wipeR, startR, List.map_cons, List.map_nil, List.length_cons, List.length_nil, List.replicate, List.cons_append, List.nil_append, true_implies, false_implies, forall_const, and_true, true_and, and_false, false_and, Bool.false_eq_true, Bool.true_eq_false, Bool.not_true, Bool.not_false, Bool.not_eq_true', Bool.not_eq_false', Bool.not_eq_eq_eq_not, isi_int, isi_intb, if_true, Bool.if_true_left, ok_callKX, o_catt, o_catl, o_slit, o_slil, ok_fn, turn_nx, turn_rt, ok_some]
    refine pouch_ok.mono ?_
    rintro _ s1 ⟨rfl, h1, l1⟩
    simp only [Ss.ev, S.ev, Sm.ev, T.ev, T.evF, EF.B.ev, I.ev, As.ev, Ws.ev, O.ev, BOp.d, COp.d, F1.d, ok_seq, ok_ifS, ok_set1, ok_setS, ok_ret, ok_retn, ok_drop, ok_par, ok_putX, ok_new, ok_retc, ok_setc, ok_skip, ok_brk, ok_cnt, then_nx, then_rt, then_bk, then_ct, ok_rdV, ok_bin2, ok_un1, ok_k, ok_asB, isB_b, ok_andX, ok_orX, ok_notX, ok_andB, ok_orB, ok_notB, ok_iteX, ok_nilX, ok_consX, ok_tupX, ok_fitX, ok_lsX, ok_cixX, ok_rdC, contD_c, contD_s, at3_0, at3_1, at3_2, ix3_0, ix3_1, ix3_2, isI_i, ok_someO, ok_noO, ok_sliX, ok_csliX, ok_rdCV, ok_tyX, ok_isiX, ok_chn, ok_nilW, ok_consW, ok_datW, ok_celW, ok_callX, isD_d, isP_p, ok_appX, ok_bind, ok_pure, ok_ofOpt, oko_some, oko_none, slotD_d, slotC_c, o_add, o_sub, o_mul, o_fdiv, o_pow, o_mod, o_lt, o_le, o_gt, o_ge, o_eq, o_ne, o_int, List.getElem?_cons_zero, List.getElem?_cons_succ, List.set_cons_zero, List.set_cons_succ, Nat.reduceAdd, List.set_cons_zero, exists_eq_left, exists_eq_left', end_d, end_nx, end_c, Option.some.injEq, decide_eq_true_eq, decide_eq_false_iff_not, ok_anyI, seq_t, seq_l, ok_rng1, ok_enum, ok_lcF, ok_forS, put_nm, put_tp2, put_tp3, wipeR, startR, List.map_cons, List.map_nil, List.length_cons, List.length_nil, List.replicate, List.cons_append, List.nil_append, true_implies, false_implies, forall_const, and_true, true_and, and_false, false_and, Bool.false_eq_true, Bool.true_eq_false, Bool.not_true, Bool.not_false, Bool.not_eq_true', Bool.not_eq_false', Bool.not_eq_eq_eq_not, isi_int, isi_intb, if_true, Bool.if_true_left, ok_callKX, o_catt, o_catl, o_slit, o_slil, ok_fn, turn_nx, turn_rt, ok_some]
    refine (sizes_ok h1 (by omega)).mono ?_
    rintro _ s2 ⟨zs, rfl, hz, u2, h2⟩
    simp only [Ss.ev, S.ev, Sm.ev, T.ev, T.evF, EF.B.ev, I.ev, As.ev, Ws.ev, O.ev, BOp.d, COp.d, F1.d, ok_seq, ok_ifS, ok_set1, ok_setS, ok_ret, ok_retn, ok_drop, ok_par, ok_putX, ok_new, ok_retc, ok_setc, ok_skip, ok_brk, ok_cnt, then_nx, then_rt, then_bk, then_ct, ok_rdV, ok_bin2, ok_un1, ok_k, ok_asB, isB_b, ok_andX, ok_orX, ok_notX, ok_andB, ok_orB, ok_notB, ok_iteX, ok_nilX, ok_consX, ok_tupX, ok_fitX, ok_lsX, ok_cixX, ok_rdC, contD_c, contD_s, at3_0, at3_1, at3_2, ix3_0, ix3_1, ix3_2, isI_i, ok_someO, ok_noO, ok_sliX, ok_csliX, ok_rdCV, ok_tyX, ok_isiX, ok_chn, ok_nilW, ok_consW, ok_datW, ok_celW, ok_callX, isD_d, isP_p, ok_appX, ok_bind, ok_pure, ok_ofOpt, oko_some, oko_none, slotD_d, slotC_c, o_add, o_sub, o_mul, o_fdiv, o_pow, o_mod, o_lt, o_le, o_gt, o_ge, o_eq, o_ne, o_int, List.getElem?_cons_zero, List.getElem?_cons_succ, List.set_cons_zero, List.set_cons_succ, Nat.reduceAdd, List.set_cons_zero, exists_eq_left, exists_eq_left', end_d, end_nx, end_c, Option.some.injEq, decide_eq_true_eq, decide_eq_false_iff_not, ok_anyI, seq_t, seq_l, ok_rng1, ok_enum, ok_lcF, ok_forS, put_nm, put_tp2, put_tp3, wipeR, startR, List.map_cons, List.map_nil, List.length_cons, List.length_nil, List.replicate, List.cons_append, List.nil_append, true_implies, false_implies, forall_const, and_true, true_and, and_false, false_and, Bool.false_eq_true, Bool.true_eq_false, Bool.not_true, Bool.not_false, Bool.not_eq_true', Bool.not_eq_false', Bool.not_eq_eq_eq_not, isi_int, isi_intb, if_true, Bool.if_true_left, ok_callKX, o_catt, o_catl, o_slit, o_slil, ok_fn, turn_nx, turn_rt, ok_some]
    refine (row_ok h2 (by omega) hz).mono ?_
    rintro _ s3 ⟨a, rfl, ha, u3, h3⟩
    simp only [Ss.ev, S.ev, Sm.ev, T.ev, T.evF, EF.B.ev, I.ev, As.ev, Ws.ev, O.ev, BOp.d, COp.d, F1.d, ok_seq, ok_ifS, ok_set1, ok_setS, ok_ret, ok_retn, ok_drop, ok_par, ok_putX, ok_new, ok_retc, ok_setc, ok_skip, ok_brk, ok_cnt, then_nx, then_rt, then_bk, then_ct, ok_rdV, ok_bin2, ok_un1, ok_k, ok_asB, isB_b, ok_andX, ok_orX, ok_notX, ok_andB, ok_orB, ok_notB, ok_iteX, ok_nilX, ok_consX, ok_tupX, ok_fitX, ok_lsX, ok_cixX, ok_rdC, contD_c, contD_s, at3_0, at3_1, at3_2, ix3_0, ix3_1, ix3_2, isI_i, ok_someO, ok_noO, ok_sliX, ok_csliX, ok_rdCV, ok_tyX, ok_isiX, ok_chn, ok_nilW, ok_consW, ok_datW, ok_celW, ok_callX, isD_d, isP_p, ok_appX, ok_bind, ok_pure, ok_ofOpt, oko_some, oko_none, slotD_d, slotC_c, o_add, o_sub, o_mul, o_fdiv, o_pow, o_mod, o_lt, o_le, o_gt, o_ge, o_eq, o_ne, o_int, List.getElem?_cons_zero, List.getElem?_cons_succ, List.set_cons_zero, List.set_cons_succ, Nat.reduceAdd, List.set_cons_zero, exists_eq_left, exists_eq_left', end_d, end_nx, end_c, Option.some.injEq, decide_eq_true_eq, decide_eq_false_iff_not, ok_anyI, seq_t, seq_l, ok_rng1, ok_enum, ok_lcF, ok_forS, put_nm, put_tp2, put_tp3, wipeR, startR, List.map_cons, List.map_nil, List.length_cons, List.length_nil, List.replicate, List.cons_append, List.nil_append, true_implies, false_implies, forall_const, and_true, true_and, and_false, false_and, Bool.false_eq_true, Bool.true_eq_false, Bool.not_true, Bool.not_false, Bool.not_eq_true', Bool.not_eq_false', Bool.not_eq_eq_eq_not, isi_int, isi_intb, if_true, Bool.if_true_left, ok_callKX, o_catt, o_catl, o_slit, o_slil, ok_fn, turn_nx, turn_rt, ok_some]
    refine (near_ok h3 (by omega) hz ha).mono ?_
    rintro _ s4 ⟨b, rfl, hb, u4, h4⟩
    simp only [Ss.ev, S.ev, Sm.ev, T.ev, T.evF, EF.B.ev, I.ev, As.ev, Ws.ev, O.ev, BOp.d, COp.d, F1.d, ok_seq, ok_ifS, ok_set1, ok_setS, ok_ret, ok_retn, ok_drop, ok_par, ok_putX, ok_new, ok_retc, ok_setc, ok_skip, ok_brk, ok_cnt, then_nx, then_rt, then_bk, then_ct, ok_rdV, ok_bin2, ok_un1, ok_k, ok_asB, isB_b, ok_andX, ok_orX, ok_notX, ok_andB, ok_orB, ok_notB, ok_iteX, ok_nilX, ok_consX, ok_tupX, ok_fitX, ok_lsX, ok_cixX, ok_rdC, contD_c, contD_s, at3_0, at3_1, at3_2, ix3_0, ix3_1, ix3_2, isI_i, ok_someO, ok_noO, ok_sliX, ok_csliX, ok_rdCV, ok_tyX, ok_isiX, ok_chn, ok_nilW, ok_consW, ok_datW, ok_celW, ok_callX, isD_d, isP_p, ok_appX, ok_bind, ok_pure, ok_ofOpt, oko_some, oko_none, slotD_d, slotC_c, o_add, o_sub, o_mul, o_fdiv, o_pow, o_mod, o_lt, o_le, o_gt, o_ge, o_eq, o_ne, o_int, List.getElem?_cons_zero, List.getElem?_cons_succ, List.set_cons_zero, List.set_cons_succ, Nat.reduceAdd, List.set_cons_zero, exists_eq_left, exists_eq_left', end_d, end_nx, end_c, Option.some.injEq, decide_eq_true_eq, decide_eq_false_iff_not, ok_anyI, seq_t, seq_l, ok_rng1, ok_enum, ok_lcF, ok_forS, put_nm, put_tp2, put_tp3, wipeR, startR, List.map_cons, List.map_nil, List.length_cons, List.length_nil, List.replicate, List.cons_append, List.nil_append, true_implies, false_implies, forall_const, and_true, true_and, and_false, false_and, Bool.false_eq_true, Bool.true_eq_false, Bool.not_true, Bool.not_false, Bool.not_eq_true', Bool.not_eq_false', Bool.not_eq_eq_eq_not, isi_int, isi_intb, if_true, Bool.if_true_left, ok_callKX, o_catt, o_catl, o_slit, o_slil, ok_fn, turn_nx, turn_rt, ok_some]
    refine (near_ok h4 (by omega) hz ha).mono ?_
    rintro _ s5 ⟨c, rfl, hc, u5, h5⟩
    simp only [Ss.ev, S.ev, Sm.ev, T.ev, T.evF, EF.B.ev, I.ev, As.ev, Ws.ev, O.ev, BOp.d, COp.d, F1.d, ok_seq, ok_ifS, ok_set1, ok_setS, ok_ret, ok_retn, ok_drop, ok_par, ok_putX, ok_new, ok_retc, ok_setc, ok_skip, ok_brk, ok_cnt, then_nx, then_rt, then_bk, then_ct, ok_rdV, ok_bin2, ok_un1, ok_k, ok_asB, isB_b, ok_andX, ok_orX, ok_notX, ok_andB, ok_orB, ok_notB, ok_iteX, ok_nilX, ok_consX, ok_tupX, ok_fitX, ok_lsX, ok_cixX, ok_rdC, contD_c, contD_s, at3_0, at3_1, at3_2, ix3_0, ix3_1, ix3_2, isI_i, ok_someO, ok_noO, ok_sliX, ok_csliX, ok_rdCV, ok_tyX, ok_isiX, ok_chn, ok_nilW, ok_consW, ok_datW, ok_celW, ok_callX, isD_d, isP_p, ok_appX, ok_bind, ok_pure, ok_ofOpt, oko_some, oko_none, slotD_d, slotC_c, o_add, o_sub, o_mul, o_fdiv, o_pow, o_mod, o_lt, o_le, o_gt, o_ge, o_eq, o_ne, o_int, List.getElem?_cons_zero, List.getElem?_cons_succ, List.set_cons_zero, List.set_cons_succ, Nat.reduceAdd, List.set_cons_zero, exists_eq_left, exists_eq_left', end_d, end_nx, end_c, Option.some.injEq, decide_eq_true_eq, decide_eq_false_iff_not, ok_anyI, seq_t, seq_l, ok_rng1, ok_enum, ok_lcF, ok_forS, put_nm, put_tp2, put_tp3, wipeR, startR, List.map_cons, List.map_nil, List.length_cons, List.length_nil, List.replicate, List.cons_append, List.nil_append, true_implies, false_implies, forall_const, and_true, true_and, and_false, false_and, Bool.false_eq_true, Bool.true_eq_false, Bool.not_true, Bool.not_false, Bool.not_eq_true', Bool.not_eq_false', Bool.not_eq_eq_eq_not, isi_int, isi_intb, if_true, Bool.if_true_left, ok_callKX, o_catt, o_catl, o_slit, o_slil, ok_fn, turn_nx, turn_rt, ok_some]
    refine (partial_ok h5 (by omega) hz).mono ?_
    rintro _ s6 ⟨mask, rfl, hm, u6, h6⟩
    simp only [Ss.ev, S.ev, Sm.ev, T.ev, T.evF, EF.B.ev, I.ev, As.ev, Ws.ev, O.ev, BOp.d, COp.d, F1.d, ok_seq, ok_ifS, ok_set1, ok_setS, ok_ret, ok_retn, ok_drop, ok_par, ok_putX, ok_new, ok_retc, ok_setc, ok_skip, ok_brk, ok_cnt, then_nx, then_rt, then_bk, then_ct, ok_rdV, ok_bin2, ok_un1, ok_k, ok_asB, isB_b, ok_andX, ok_orX, ok_notX, ok_andB, ok_orB, ok_notB, ok_iteX, ok_nilX, ok_consX, ok_tupX, ok_fitX, ok_lsX, ok_cixX, ok_rdC, contD_c, contD_s, at3_0, at3_1, at3_2, ix3_0, ix3_1, ix3_2, isI_i, ok_someO, ok_noO, ok_sliX, ok_csliX, ok_rdCV, ok_tyX, ok_isiX, ok_chn, ok_nilW, ok_consW, ok_datW, ok_celW, ok_callX, isD_d, isP_p, ok_appX, ok_bind, ok_pure, ok_ofOpt, oko_some, oko_none, slotD_d, slotC_c, o_add, o_sub, o_mul, o_fdiv, o_pow, o_mod, o_lt, o_le, o_gt, o_ge, o_eq, o_ne, o_int, List.getElem?_cons_zero, List.getElem?_cons_succ, List.set_cons_zero, List.set_cons_succ, Nat.reduceAdd, List.set_cons_zero, exists_eq_left, exists_eq_left', end_d, end_nx, end_c, Option.some.injEq, decide_eq_true_eq, decide_eq_false_iff_not, ok_anyI, seq_t, seq_l, ok_rng1, ok_enum, ok_lcF, ok_forS, put_nm, put_tp2, put_tp3, wipeR, startR, List.map_cons, List.map_nil, List.length_cons, List.length_nil, List.replicate, List.cons_append, List.nil_append, true_implies, false_implies, forall_const, and_true, true_and, and_false, false_and, Bool.false_eq_true, Bool.true_eq_false, Bool.not_true, Bool.not_false, Bool.not_eq_true', Bool.not_eq_false', Bool.not_eq_eq_eq_not, isi_int, isi_intb, if_true, Bool.if_true_left, ok_callKX, o_catt, o_catl, o_slit, o_slil, ok_fn, turn_nx, turn_rt, ok_some, len_row]
    have z1 := hz.1
    have z8 := hz.2.1
    refine ⟨small_ok (by omega) (by omega), by rw [rngD_len]; omega, ?_⟩
    refine (comp_st (k := 0) (fun _ s' => s' = s6) (fun i y => ∃ o : Option Int, y = optD o ∧ ∀ x z, o = some x → zs[i]? = some z → 0 ≤ x ∧ x < z) (fun i d s' hd hI => ?_) rfl).mono ?_
    · subst hI
      obtain ⟨hi, rfl⟩ := rng_mem hd
      obtain ⟨o, ho⟩ := hm.at_ (i := i) (by omega)
      obtain ⟨z, hz'⟩ : ∃ z, zs[i]? = some z := ⟨_, List.getElem?_eq_getElem (by omega)⟩
      obtain ⟨x, hx, x0, x1⟩ := ha.at_ hz'
      cases o with
      | none =>
        simp only [Ss.ev, S.ev, Sm.ev, T.ev, T.evF, EF.B.ev, I.ev, As.ev, Ws.ev, O.ev, BOp.d, COp.d, F1.d, ok_seq, ok_ifS, ok_set1, ok_setS, ok_ret, ok_retn, ok_drop, ok_par, ok_putX, ok_new, ok_retc, ok_setc, ok_skip, ok_brk, ok_cnt, then_nx, then_rt, then_bk, then_ct, ok_rdV, ok_bin2, ok_un1, ok_k, ok_asB, isB_b, ok_andX, ok_orX, ok_notX, ok_andB, ok_orB, ok_notB, ok_iteX, ok_nilX, ok_consX, ok_tupX, ok_fitX, ok_lsX, ok_cixX, ok_rdC, contD_c, contD_s, at3_0, at3_1, at3_2, ix3_0, ix3_1, ix3_2, isI_i, ok_someO, ok_noO, ok_sliX, ok_csliX, ok_rdCV, ok_tyX, ok_isiX, ok_chn, ok_nilW, ok_consW, ok_datW, ok_celW, ok_callX, isD_d, isP_p, ok_appX, ok_bind, ok_pure, ok_ofOpt, oko_some, oko_none, slotD_d, slotC_c, o_add, o_sub, o_mul, o_fdiv, o_pow, o_mod, o_lt, o_le, o_gt, o_ge, o_eq, o_ne, o_int, List.getElem?_cons_zero, List.getElem?_cons_succ, List.set_cons_zero, List.set_cons_succ, Nat.reduceAdd, List.set_cons_zero, exists_eq_left, exists_eq_left', end_d, end_nx, end_c, Option.some.injEq, decide_eq_true_eq, decide_eq_false_iff_not, ok_anyI, seq_t, seq_l, ok_rng1, ok_enum, ok_lcF, ok_forS, put_nm, put_tp2, put_tp3, wipeR, startR, List.map_cons, List.map_nil, List.length_cons, List.length_nil, List.replicate, List.cons_append, List.nil_append, true_implies, false_implies, forall_const, and_true, true_and, and_false, false_and, Bool.false_eq_true, Bool.true_eq_false, Bool.not_true, Bool.not_false, Bool.not_eq_true', Bool.not_eq_false', Bool.not_eq_eq_eq_not, isi_int, isi_intb, if_true, Bool.if_true_left, ok_callKX, o_catt, o_catl, o_slit, o_slil, ok_fn, turn_nx, turn_rt, ok_some, ix_part ho, ix_row hx, optD, o_isnn]
        exact ⟨none, rfl, fun x z e => by cases e⟩
      | some y =>
        simp only [Ss.ev, S.ev, Sm.ev, T.ev, T.evF, EF.B.ev, I.ev, As.ev, Ws.ev, O.ev, BOp.d, COp.d, F1.d, ok_seq, ok_ifS, ok_set1, ok_setS, ok_ret, ok_retn, ok_drop, ok_par, ok_putX, ok_new, ok_retc, ok_setc, ok_skip, ok_brk, ok_cnt, then_nx, then_rt, then_bk, then_ct, ok_rdV, ok_bin2, ok_un1, ok_k, ok_asB, isB_b, ok_andX, ok_orX, ok_notX, ok_andB, ok_orB, ok_notB, ok_iteX, ok_nilX, ok_consX, ok_tupX, ok_fitX, ok_lsX, ok_cixX, ok_rdC, contD_c, contD_s, at3_0, at3_1, at3_2, ix3_0, ix3_1, ix3_2, isI_i, ok_someO, ok_noO, ok_sliX, ok_csliX, ok_rdCV, ok_tyX, ok_isiX, ok_chn, ok_nilW, ok_consW, ok_datW, ok_celW, ok_callX, isD_d, isP_p, ok_appX, ok_bind, ok_pure, ok_ofOpt, oko_some, oko_none, slotD_d, slotC_c, o_add, o_sub, o_mul, o_fdiv, o_pow, o_mod, o_lt, o_le, o_gt, o_ge, o_eq, o_ne, o_int, List.getElem?_cons_zero, List.getElem?_cons_succ, List.set_cons_zero, List.set_cons_succ, Nat.reduceAdd, List.set_cons_zero, exists_eq_left, exists_eq_left', end_d, end_nx, end_c, Option.some.injEq, decide_eq_true_eq, decide_eq_false_iff_not, ok_anyI, seq_t, seq_l, ok_rng1, ok_enum, ok_lcF, ok_forS, put_nm, put_tp2, put_tp3, wipeR, startR, List.map_cons, List.map_nil, List.length_cons, List.length_nil, List.replicate, List.cons_append, List.nil_append, true_implies, false_implies, forall_const, and_true, true_and, and_false, false_and, Bool.false_eq_true, Bool.true_eq_false, Bool.not_true, Bool.not_false, Bool.not_eq_true', Bool.not_eq_false', Bool.not_eq_eq_eq_not, isi_int, isi_intb, if_true, Bool.if_true_left, ok_callKX, o_catt, o_catl, o_slit, o_slil, ok_fn, turn_nx, turn_rt, ok_some, ix_part ho, ix_row hx, optD, o_isin]
        refine ⟨some x, rfl, fun x' z' e e2 => ?_⟩
        cases e
        rw [Nat.zero_add, hz'] at e2
        cases e2
        exact ⟨x0, x1⟩
    · rintro ys s7 ⟨hyl, hyR, rfl⟩
      rw [rngD_len, Int.toNat_natCast] at hyl
      simp only [Nat.zero_add] at hyR
      obtain ⟨hs, rfl, hh⟩ := opts_of hyl hyR
      simp only [Ss.ev, S.ev, Sm.ev, T.ev, T.evF, EF.B.ev, I.ev, As.ev, Ws.ev, O.ev, BOp.d, COp.d, F1.d, ok_seq, ok_ifS, ok_set1, ok_setS, ok_ret, ok_retn, ok_drop, ok_par, ok_putX, ok_new, ok_retc, ok_setc, ok_skip, ok_brk, ok_cnt, then_nx, then_rt, then_bk, then_ct, ok_rdV, ok_bin2, ok_un1, ok_k, ok_asB, isB_b, ok_andX, ok_orX, ok_notX, ok_andB, ok_orB, ok_notB, ok_iteX, ok_nilX, ok_consX, ok_tupX, ok_fitX, ok_lsX, ok_cixX, ok_rdC, contD_c, contD_s, at3_0, at3_1, at3_2, ix3_0, ix3_1, ix3_2, isI_i, ok_someO, ok_noO, ok_sliX, ok_csliX, ok_rdCV, ok_tyX, ok_isiX, ok_chn, ok_nilW, ok_consW, ok_datW, ok_celW, ok_callX, isD_d, isP_p, ok_appX, ok_bind, ok_pure, ok_ofOpt, oko_some, oko_none, slotD_d, slotC_c, o_add, o_sub, o_mul, o_fdiv, o_pow, o_mod, o_lt, o_le, o_gt, o_ge, o_eq, o_ne, o_int, List.getElem?_cons_zero, List.getElem?_cons_succ, List.set_cons_zero, List.set_cons_succ, Nat.reduceAdd, List.set_cons_zero, exists_eq_left, exists_eq_left', end_d, end_nx, end_c, Option.some.injEq, decide_eq_true_eq, decide_eq_false_iff_not, ok_anyI, seq_t, seq_l, ok_rng1, ok_enum, ok_lcF, ok_forS, put_nm, put_tp2, put_tp3, wipeR, startR, List.map_cons, List.map_nil, List.length_cons, List.length_nil, List.replicate, List.cons_append, List.nil_append, true_implies, false_implies, forall_const, and_true, true_and, and_false, false_and, Bool.false_eq_true, Bool.true_eq_false, Bool.not_true, Bool.not_false, Bool.not_eq_true', Bool.not_eq_false', Bool.not_eq_eq_eq_not, isi_int, isi_intb, if_true, Bool.if_true_left, ok_callKX, o_catt, o_catl, o_slit, o_slil, ok_fn, turn_nx, turn_rt, ok_some, tup_l]
      refine (take_ok h6 (by omega) (by omega) (by omega)).mono ?_
      rintro _ s8 ⟨at0, rfl, a0, a1, u8, h8⟩
      obtain ⟨k, rfl⟩ := Int.eq_ofNat_of_zero_le a0
      obtain ⟨z, hz'⟩ : ∃ z, zs[k]? = some z := ⟨_, List.getElem?_eq_getElem (by omega)⟩
      have hz1 := hz.2.2 z (List.mem_of_getElem? hz')
      simp only [Ss.ev, S.ev, Sm.ev, T.ev, T.evF, EF.B.ev, I.ev, As.ev, Ws.ev, O.ev, BOp.d, COp.d, F1.d, ok_seq, ok_ifS, ok_set1, ok_setS, ok_ret, ok_retn, ok_drop, ok_par, ok_putX, ok_new, ok_retc, ok_setc, ok_skip, ok_brk, ok_cnt, then_nx, then_rt, then_bk, then_ct, ok_rdV, ok_bin2, ok_un1, ok_k, ok_asB, isB_b, ok_andX, ok_orX, ok_notX, ok_andB, ok_orB, ok_notB, ok_iteX, ok_nilX, ok_consX, ok_tupX, ok_fitX, ok_lsX, ok_cixX, ok_rdC, contD_c, contD_s, at3_0, at3_1, at3_2, ix3_0, ix3_1, ix3_2, isI_i, ok_someO, ok_noO, ok_sliX, ok_csliX, ok_rdCV, ok_tyX, ok_isiX, ok_chn, ok_nilW, ok_consW, ok_datW, ok_celW, ok_callX, isD_d, isP_p, ok_appX, ok_bind, ok_pure, ok_ofOpt, oko_some, oko_none, slotD_d, slotC_c, o_add, o_sub, o_mul, o_fdiv, o_pow, o_mod, o_lt, o_le, o_gt, o_ge, o_eq, o_ne, o_int, List.getElem?_cons_zero, List.getElem?_cons_succ, List.set_cons_zero, List.set_cons_succ, Nat.reduceAdd, List.set_cons_zero, exists_eq_left, exists_eq_left', end_d, end_nx, end_c, Option.some.injEq, decide_eq_true_eq, decide_eq_false_iff_not, ok_anyI, seq_t, seq_l, ok_rng1, ok_enum, ok_lcF, ok_forS, put_nm, put_tp2, put_tp3, wipeR, startR, List.map_cons, List.map_nil, List.length_cons, List.length_nil, List.replicate, List.cons_append, List.nil_append, true_implies, false_implies, forall_const, and_true, true_and, and_false, false_and, Bool.false_eq_true, Bool.true_eq_false, Bool.not_true, Bool.not_false, Bool.not_eq_true', Bool.not_eq_false', Bool.not_eq_eq_eq_not, isi_int, isi_intb, if_true, Bool.if_true_left, ok_callKX, o_catt, o_catl, o_slit, o_slil, ok_fn, turn_nx, turn_rt, ok_some, ix_row hz']
      refine (take_ok h8 (by omega) (by omega) (by omega)).mono ?_
      rintro _ s9 ⟨v, rfl, v0, v1, u9, h9⟩
      have kl : k < hs.length := by rw [hh.1]; omega
      have c1 : (EF.cutD (List.map optD hs) none (some (k : Int))).length ≤ (hs.map optD).length := cut_len
      have c2 : (EF.cutD (List.map optD hs) (some ((k : Int) + 1)) none).length ≤ (hs.map optD).length := cut_len
      simp only [Ss.ev, S.ev, Sm.ev, T.ev, T.evF, EF.B.ev, I.ev, As.ev, Ws.ev, O.ev, BOp.d, COp.d, F1.d, ok_seq, ok_ifS, ok_set1, ok_setS, ok_ret, ok_retn, ok_drop, ok_par, ok_putX, ok_new, ok_retc, ok_setc, ok_skip, ok_brk, ok_cnt, then_nx, then_rt, then_bk, then_ct, ok_rdV, ok_bin2, ok_un1, ok_k, ok_asB, isB_b, ok_andX, ok_orX, ok_notX, ok_andB, ok_orB, ok_notB, ok_iteX, ok_nilX, ok_consX, ok_tupX, ok_fitX, ok_lsX, ok_cixX, ok_rdC, contD_c, contD_s, at3_0, at3_1, at3_2, ix3_0, ix3_1, ix3_2, isI_i, ok_someO, ok_noO, ok_sliX, ok_csliX, ok_rdCV, ok_tyX, ok_isiX, ok_chn, ok_nilW, ok_consW, ok_datW, ok_celW, ok_callX, isD_d, isP_p, ok_appX, ok_bind, ok_pure, ok_ofOpt, oko_some, oko_none, slotD_d, slotC_c, o_add, o_sub, o_mul, o_fdiv, o_pow, o_mod, o_lt, o_le, o_gt, o_ge, o_eq, o_ne, o_int, List.getElem?_cons_zero, List.getElem?_cons_succ, List.set_cons_zero, List.set_cons_succ, Nat.reduceAdd, List.set_cons_zero, exists_eq_left, exists_eq_left', end_d, end_nx, end_c, Option.some.injEq, decide_eq_true_eq, decide_eq_false_iff_not, ok_anyI, seq_t, seq_l, ok_rng1, ok_enum, ok_lcF, ok_forS, put_nm, put_tp2, put_tp3, wipeR, startR, List.map_cons, List.map_nil, List.length_cons, List.length_nil, List.replicate, List.cons_append, List.nil_append, true_implies, false_implies, forall_const, and_true, true_and, and_false, false_and, Bool.false_eq_true, Bool.true_eq_false, Bool.not_true, Bool.not_false, Bool.not_eq_true', Bool.not_eq_false', Bool.not_eq_eq_eq_not, isi_int, isi_intb, if_true, Bool.if_true_left, ok_callKX, o_catt, o_catl, o_slit, o_slil, ok_fn, turn_nx, turn_rt, ok_some]
      refine ⟨by omega, by omega, by rw [List.length_append]; simp only [List.length_cons, List.length_nil]; omega, by omega, ?_⟩
      have hbent := set_fits (v := v) hh hz' v0 v1
      refine for_st (k := 0) (fun _ ρ _ => ∃ v1 v2 v5 v6 v7 v8 v9 v12 v13 v14 v15 v16 v17, ρ = [some (.s ns), v1, v2, some (.d (rowD zs)), some (.d (rowD a)), v5, v6, v7, v8, v9, some (.d (rowD b)), some (.d (rowD c)), v12, v13, v14, v15, v16, v17]) (fun i d ρ s hd hI => ?_) (fun ρ s hI => ?_) ⟨_, _, _, _, _, _, _, _, _, _, _, _, _, rfl⟩
      · obtain ⟨v1, v2, v5, v6, v7, v8, v9, v12, v13, v14, v15, v16, v17, rfl⟩ := hI
        obtain ⟨ps, rfl, hp⟩ : ∃ ps, d = partD ps ∧ PFits zs ps := by
          have m := List.mem_of_getElem? hd
          simp only [List.mem_cons, List.not_mem_nil, or_false] at m
          rcases m with rfl | rfl | rfl
          · exact ⟨hs, rfl, hh⟩
          · exact ⟨_, set_part kl, hbent⟩
          · exact ⟨mask, rfl, hm⟩
        simp only [Ss.ev, S.ev, Sm.ev, T.ev, T.evF, EF.B.ev, I.ev, As.ev, Ws.ev, O.ev, BOp.d, COp.d, F1.d, ok_seq, ok_ifS, ok_set1, ok_setS, ok_ret, ok_retn, ok_drop, ok_par, ok_putX, ok_new, ok_retc, ok_setc, ok_skip, ok_brk, ok_cnt, then_nx, then_rt, then_bk, then_ct, ok_rdV, ok_bin2, ok_un1, ok_k, ok_asB, isB_b, ok_andX, ok_orX, ok_notX, ok_andB, ok_orB, ok_notB, ok_iteX, ok_nilX, ok_consX, ok_tupX, ok_fitX, ok_lsX, ok_cixX, ok_rdC, contD_c, contD_s, at3_0, at3_1, at3_2, ix3_0, ix3_1, ix3_2, isI_i, ok_someO, ok_noO, ok_sliX, ok_csliX, ok_rdCV, ok_tyX, ok_isiX, ok_chn, ok_nilW, ok_consW, ok_datW, ok_celW, ok_callX, isD_d, isP_p, ok_appX, ok_bind, ok_pure, ok_ofOpt, oko_some, oko_none, slotD_d, slotC_c, o_add, o_sub, o_mul, o_fdiv, o_pow, o_mod, o_lt, o_le, o_gt, o_ge, o_eq, o_ne, o_int, List.getElem?_cons_zero, List.getElem?_cons_succ, List.set_cons_zero, List.set_cons_succ, Nat.reduceAdd, List.set_cons_zero, exists_eq_left, exists_eq_left', end_d, end_nx, end_c, Option.some.injEq, decide_eq_true_eq, decide_eq_false_iff_not, ok_anyI, seq_t, seq_l, ok_rng1, ok_enum, ok_lcF, ok_forS, put_nm, put_tp2, put_tp3, wipeR, startR, List.map_cons, List.map_nil, List.length_cons, List.length_nil, List.replicate, List.cons_append, List.nil_append, true_implies, false_implies, forall_const, and_true, true_and, and_false, false_and, Bool.false_eq_true, Bool.true_eq_false, Bool.not_true, Bool.not_false, Bool.not_eq_true', Bool.not_eq_false', Bool.not_eq_eq_eq_not, isi_int, isi_intb, if_true, Bool.if_true_left, ok_callKX, o_catt, o_catl, o_slit, o_slil, ok_fn, turn_nx, turn_rt, ok_some]
        refine ⟨by omega, ?_⟩
        refine for_st (k := 0) (fun _ ρ _ => ∃ v1 v2 v5 v6 v7 v8 v12 v13 v14 v15 v16 v17, ρ = [some (.s ns), v1, v2, some (.d (rowD zs)), some (.d (rowD a)), v5, v6, v7, v8, some (.d (partD ps)), some (.d (rowD b)), some (.d (rowD c)), v12, v13, v14, v15, v16, v17]) (fun i d ρ s hd hI => ?_) (fun ρ s hI => ?_) ⟨_, _, _, _, _, _, _, _, _, _, _, _, rfl⟩
        · obtain ⟨v1, v2, v5, v6, v7, v8, v12, v13, v14, v15, v16, v17, rfl⟩ := hI
          obtain ⟨x, rfl, hx⟩ : ∃ x, d = rowD x ∧ Fits zs x := by
            have m := List.mem_of_getElem? hd
            simp only [List.mem_cons, List.not_mem_nil, or_false] at m
            rcases m with rfl | rfl
            · exact ⟨a, rfl, ha⟩
            · exact ⟨b, rfl, hb⟩
          simp only [Ss.ev, S.ev, Sm.ev, T.ev, T.evF, EF.B.ev, I.ev, As.ev, Ws.ev, O.ev, BOp.d, COp.d, F1.d, ok_seq, ok_ifS, ok_set1, ok_setS, ok_ret, ok_retn, ok_drop, ok_par, ok_putX, ok_new, ok_retc, ok_setc, ok_skip, ok_brk, ok_cnt, then_nx, then_rt, then_bk, then_ct, ok_rdV, ok_bin2, ok_un1, ok_k, ok_asB, isB_b, ok_andX, ok_orX, ok_notX, ok_andB, ok_orB, ok_notB, ok_iteX, ok_nilX, ok_consX, ok_tupX, ok_fitX, ok_lsX, ok_cixX, ok_rdC, contD_c, contD_s, at3_0, at3_1, at3_2, ix3_0, ix3_1, ix3_2, isI_i, ok_someO, ok_noO, ok_sliX, ok_csliX, ok_rdCV, ok_tyX, ok_isiX, ok_chn, ok_nilW, ok_consW, ok_datW, ok_celW, ok_callX, isD_d, isP_p, ok_appX, ok_bind, ok_pure, ok_ofOpt, oko_some, oko_none, slotD_d, slotC_c, o_add, o_sub, o_mul, o_fdiv, o_pow, o_mod, o_lt, o_le, o_gt, o_ge, o_eq, o_ne, o_int, List.getElem?_cons_zero, List.getElem?_cons_succ, List.set_cons_zero, List.set_cons_succ, Nat.reduceAdd, List.set_cons_zero, exists_eq_left, exists_eq_left', end_d, end_nx, end_c, Option.some.injEq, decide_eq_true_eq, decide_eq_false_iff_not, ok_anyI, seq_t, seq_l, ok_rng1, ok_enum, ok_lcF, ok_forS, put_nm, put_tp2, put_tp3, wipeR, startR, List.map_cons, List.map_nil, List.length_cons, List.length_nil, List.replicate, List.cons_append, List.nil_append, true_implies, false_implies, forall_const, and_true, true_and, and_false, false_and, Bool.false_eq_true, Bool.true_eq_false, Bool.not_true, Bool.not_false, Bool.not_eq_true', Bool.not_eq_false', Bool.not_eq_eq_eq_not, isi_int, isi_intb, if_true, Bool.if_true_left, ok_callKX, o_catt, o_catl, o_slit, o_slil, ok_fn, turn_nx, turn_rt, ok_some, len_row]
          refine ⟨small_ok (by omega) (by omega), by rw [rngD_len]; omega, comp_pure (tb := diff x ps) (e := id) (fun d hd => ?_) ?_⟩
          · obtain ⟨i, hi, e⟩ := List.getElem_of_mem hd
            obtain ⟨hi2, rfl⟩ := rng_mem (d := d) (i := i) (by rw [List.getElem?_eq_getElem hi, e])
            obtain ⟨o, ho⟩ := hp.at_ (i := i) (by omega)
            obtain ⟨y, hy, _⟩ := hx.at_ (List.getElem?_eq_getElem (i := i) (l := zs) (by omega))
            cases o with
            | none =>
              simp only [Ss.ev, S.ev, Sm.ev, T.ev, T.evF, EF.B.ev, I.ev, As.ev, Ws.ev, O.ev, BOp.d, COp.d, F1.d, ok_seq, ok_ifS, ok_set1, ok_setS, ok_ret, ok_retn, ok_drop, ok_par, ok_putX, ok_new, ok_retc, ok_setc, ok_skip, ok_brk, ok_cnt, then_nx, then_rt, then_bk, then_ct, ok_rdV, ok_bin2, ok_un1, ok_k, ok_asB, isB_b, ok_andX, ok_orX, ok_notX, ok_andB, ok_orB, ok_notB, ok_iteX, ok_nilX, ok_consX, ok_tupX, ok_fitX, ok_lsX, ok_cixX, ok_rdC, contD_c, contD_s, at3_0, at3_1, at3_2, ix3_0, ix3_1, ix3_2, isI_i, ok_someO, ok_noO, ok_sliX, ok_csliX, ok_rdCV, ok_tyX, ok_isiX, ok_chn, ok_nilW, ok_consW, ok_datW, ok_celW, ok_callX, isD_d, isP_p, ok_appX, ok_bind, ok_pure, ok_ofOpt, oko_some, oko_none, slotD_d, slotC_c, o_add, o_sub, o_mul, o_fdiv, o_pow, o_mod, o_lt, o_le, o_gt, o_ge, o_eq, o_ne, o_int, List.getElem?_cons_zero, List.getElem?_cons_succ, List.set_cons_zero, List.set_cons_succ, Nat.reduceAdd, List.set_cons_zero, exists_eq_left, exists_eq_left', end_d, end_nx, end_c, Option.some.injEq, decide_eq_true_eq, decide_eq_false_iff_not, ok_anyI, seq_t, seq_l, ok_rng1, ok_enum, ok_lcF, ok_forS, put_nm, put_tp2, put_tp3, wipeR, startR, List.map_cons, List.map_nil, List.length_cons, List.length_nil, List.replicate, List.cons_append, List.nil_append, true_implies, false_implies, forall_const, and_true, true_and, and_false, false_and, Bool.false_eq_true, Bool.true_eq_false, Bool.not_true, Bool.not_false, Bool.not_eq_true', Bool.not_eq_false', Bool.not_eq_eq_eq_not, isi_int, isi_intb, if_true, Bool.if_true_left, ok_callKX, o_catt, o_catl, o_slit, o_slil, ok_fn, turn_nx, turn_rt, ok_some, ix_part ho, ix_row hy, optD, o_isntnn, diff, Int.toNat_natCast, ho, hy]
            | some y' =>
              simp only [Ss.ev, S.ev, Sm.ev, T.ev, T.evF, EF.B.ev, I.ev, As.ev, Ws.ev, O.ev, BOp.d, COp.d, F1.d, ok_seq, ok_ifS, ok_set1, ok_setS, ok_ret, ok_retn, ok_drop, ok_par, ok_putX, ok_new, ok_retc, ok_setc, ok_skip, ok_brk, ok_cnt, then_nx, then_rt, then_bk, then_ct, ok_rdV, ok_bin2, ok_un1, ok_k, ok_asB, isB_b, ok_andX, ok_orX, ok_notX, ok_andB, ok_orB, ok_notB, ok_iteX, ok_nilX, ok_consX, ok_tupX, ok_fitX, ok_lsX, ok_cixX, ok_rdC, contD_c, contD_s, at3_0, at3_1, at3_2, ix3_0, ix3_1, ix3_2, isI_i, ok_someO, ok_noO, ok_sliX, ok_csliX, ok_rdCV, ok_tyX, ok_isiX, ok_chn, ok_nilW, ok_consW, ok_datW, ok_celW, ok_callX, isD_d, isP_p, ok_appX, ok_bind, ok_pure, ok_ofOpt, oko_some, oko_none, slotD_d, slotC_c, o_add, o_sub, o_mul, o_fdiv, o_pow, o_mod, o_lt, o_le, o_gt, o_ge, o_eq, o_ne, o_int, List.getElem?_cons_zero, List.getElem?_cons_succ, List.set_cons_zero, List.set_cons_succ, Nat.reduceAdd, List.set_cons_zero, exists_eq_left, exists_eq_left', end_d, end_nx, end_c, Option.some.injEq, decide_eq_true_eq, decide_eq_false_iff_not, ok_anyI, seq_t, seq_l, ok_rng1, ok_enum, ok_lcF, ok_forS, put_nm, put_tp2, put_tp3, wipeR, startR, List.map_cons, List.map_nil, List.length_cons, List.length_nil, List.replicate, List.cons_append, List.nil_append, true_implies, false_implies, forall_const, and_true, true_and, and_false, false_and, Bool.false_eq_true, Bool.true_eq_false, Bool.not_true, Bool.not_false, Bool.not_eq_true', Bool.not_eq_false', Bool.not_eq_eq_eq_not, isi_int, isi_intb, if_true, Bool.if_true_left, ok_callKX, o_catt, o_catl, o_slit, o_slil, ok_fn, turn_nx, turn_rt, ok_some, ix_part ho, ix_row hy, optD, o_isntin, diff, Int.toNat_natCast, ho, hy, id]
              exact fun _ => trivial
          · obtain ⟨bb, hbb, hbi⟩ := agrees_ok (st := s) hz hx hp
            have eb : (((rngD zs.length 0).filter (diff x ps)).map id).isEmpty = bb := Bool.eq_iff_iff.mpr ((diff_agr hx hp).trans hbi.symm)
            have fl : ∀ d ∈ (((rngD zs.length 0).filter (diff x ps)).map id), flat d = true := fun d hd => by
              rw [List.map_id] at hd
              obtain ⟨i, hi, e⟩ := List.getElem_of_mem (List.mem_filter.mp hd).1
              obtain ⟨_, rfl⟩ := rng_mem (d := d) (i := i) (by rw [List.getElem?_eq_getElem hi, e])
              rfl
            simp only [Ss.ev, S.ev, Sm.ev, T.ev, T.evF, EF.B.ev, I.ev, As.ev, Ws.ev, O.ev, BOp.d, COp.d, F1.d, ok_seq, ok_ifS, ok_set1, ok_setS, ok_ret, ok_retn, ok_drop, ok_par, ok_putX, ok_new, ok_retc, ok_setc, ok_skip, ok_brk, ok_cnt, then_nx, then_rt, then_bk, then_ct, ok_rdV, ok_bin2, ok_un1, ok_k, ok_asB, isB_b, ok_andX, ok_orX, ok_notX, ok_andB, ok_orB, ok_notB, ok_iteX, ok_nilX, ok_consX, ok_tupX, ok_fitX, ok_lsX, ok_cixX, ok_rdC, contD_c, contD_s, at3_0, at3_1, at3_2, ix3_0, ix3_1, ix3_2, isI_i, ok_someO, ok_noO, ok_sliX, ok_csliX, ok_rdCV, ok_tyX, ok_isiX, ok_chn, ok_nilW, ok_consW, ok_datW, ok_celW, ok_callX, isD_d, isP_p, ok_appX, ok_bind, ok_pure, ok_ofOpt, oko_some, oko_none, slotD_d, slotC_c, o_add, o_sub, o_mul, o_fdiv, o_pow, o_mod, o_lt, o_le, o_gt, o_ge, o_eq, o_ne, o_int, List.getElem?_cons_zero, List.getElem?_cons_succ, List.set_cons_zero, List.set_cons_succ, Nat.reduceAdd, List.set_cons_zero, exists_eq_left, exists_eq_left', end_d, end_nx, end_c, Option.some.injEq, decide_eq_true_eq, decide_eq_false_iff_not, ok_anyI, seq_t, seq_l, ok_rng1, ok_enum, ok_lcF, ok_forS, put_nm, put_tp2, put_tp3, wipeR, startR, List.map_cons, List.map_nil, List.length_cons, List.length_nil, List.replicate, List.cons_append, List.nil_append, true_implies, false_implies, forall_const, and_true, true_and, and_false, false_and, Bool.false_eq_true, Bool.true_eq_false, Bool.not_true, Bool.not_false, Bool.not_eq_true', Bool.not_eq_false', Bool.not_eq_eq_eq_not, isi_int, isi_intb, if_true, Bool.if_true_left, ok_callKX, o_catt, o_catl, o_slit, o_slil, ok_fn, turn_nx, turn_rt, ok_some, Int.toNat_natCast, o_eqnil fl, eb, hbb, o_reprb, o_nes (lil_b (b := bb)).2.2.1, pick, List.getD_cons_zero, List.getD_cons_succ]
            exact ⟨Nat.zero_le _, by decide, _, _, _, _, _, _, _, _, _, _, _, _, rfl⟩
        · obtain ⟨v1, v2, v5, v6, v7, v8, v12, v13, v14, v15, v16, v17, rfl⟩ := hI
          simp only [Ss.ev, S.ev, Sm.ev, T.ev, T.evF, EF.B.ev, I.ev, As.ev, Ws.ev, O.ev, BOp.d, COp.d, F1.d, ok_seq, ok_ifS, ok_set1, ok_setS, ok_ret, ok_retn, ok_drop, ok_par, ok_putX, ok_new, ok_retc, ok_setc, ok_skip, ok_brk, ok_cnt, then_nx, then_rt, then_bk, then_ct, ok_rdV, ok_bin2, ok_un1, ok_k, ok_asB, isB_b, ok_andX, ok_orX, ok_notX, ok_andB, ok_orB, ok_notB, ok_iteX, ok_nilX, ok_consX, ok_tupX, ok_fitX, ok_lsX, ok_cixX, ok_rdC, contD_c, contD_s, at3_0, at3_1, at3_2, ix3_0, ix3_1, ix3_2, isI_i, ok_someO, ok_noO, ok_sliX, ok_csliX, ok_rdCV, ok_tyX, ok_isiX, ok_chn, ok_nilW, ok_consW, ok_datW, ok_celW, ok_callX, isD_d, isP_p, ok_appX, ok_bind, ok_pure, ok_ofOpt, oko_some, oko_none, slotD_d, slotC_c, o_add, o_sub, o_mul, o_fdiv, o_pow, o_mod, o_lt, o_le, o_gt, o_ge, o_eq, o_ne, o_int, List.getElem?_cons_zero, List.getElem?_cons_succ, List.set_cons_zero, List.set_cons_succ, Nat.reduceAdd, List.set_cons_zero, exists_eq_left, exists_eq_left', end_d, end_nx, end_c, Option.some.injEq, decide_eq_true_eq, decide_eq_false_iff_not, ok_anyI, seq_t, seq_l, ok_rng1, ok_enum, ok_lcF, ok_forS, put_nm, put_tp2, put_tp3, wipeR, startR, List.map_cons, List.map_nil, List.length_cons, List.length_nil, List.replicate, List.cons_append, List.nil_append, true_implies, false_implies, forall_const, and_true, true_and, and_false, false_and, Bool.false_eq_true, Bool.true_eq_false, Bool.not_true, Bool.not_false, Bool.not_eq_true', Bool.not_eq_false', Bool.not_eq_eq_eq_not, isi_int, isi_intb, if_true, Bool.if_true_left, ok_callKX, o_catt, o_catl, o_slit, o_slil, ok_fn, turn_nx, turn_rt, ok_some]
          exact ⟨_, _, _, _, _, _, _, _, _, _, _, _, _, rfl⟩
      · obtain ⟨v1, v2, v5, v6, v7, v8, v9, v12, v13, v14, v15, v16, v17, rfl⟩ := hI
        simp only [Ss.ev, S.ev, Sm.ev, T.ev, T.evF, EF.B.ev, I.ev, As.ev, Ws.ev, O.ev, BOp.d, COp.d, F1.d, ok_seq, ok_ifS, ok_set1, ok_setS, ok_ret, ok_retn, ok_drop, ok_par, ok_putX, ok_new, ok_retc, ok_setc, ok_skip, ok_brk, ok_cnt, then_nx, then_rt, then_bk, then_ct, ok_rdV, ok_bin2, ok_un1, ok_k, ok_asB, isB_b, ok_andX, ok_orX, ok_notX, ok_andB, ok_orB, ok_notB, ok_iteX, ok_nilX, ok_consX, ok_tupX, ok_fitX, ok_lsX, ok_cixX, ok_rdC, contD_c, contD_s, at3_0, at3_1, at3_2, ix3_0, ix3_1, ix3_2, isI_i, ok_someO, ok_noO, ok_sliX, ok_csliX, ok_rdCV, ok_tyX, ok_isiX, ok_chn, ok_nilW, ok_consW, ok_datW, ok_celW, ok_callX, isD_d, isP_p, ok_appX, ok_bind, ok_pure, ok_ofOpt, oko_some, oko_none, slotD_d, slotC_c, o_add, o_sub, o_mul, o_fdiv, o_pow, o_mod, o_lt, o_le, o_gt, o_ge, o_eq, o_ne, o_int, List.getElem?_cons_zero, List.getElem?_cons_succ, List.set_cons_zero, List.set_cons_succ, Nat.reduceAdd, List.set_cons_zero, exists_eq_left, exists_eq_left', end_d, end_nx, end_c, Option.some.injEq, decide_eq_true_eq, decide_eq_false_iff_not, ok_anyI, seq_t, seq_l, ok_rng1, ok_enum, ok_lcF, ok_forS, put_nm, put_tp2, put_tp3, wipeR, startR, List.map_cons, List.map_nil, List.length_cons, List.length_nil, List.replicate, List.cons_append, List.nil_append, true_implies, false_implies, forall_const, and_true, true_and, and_false, false_and, Bool.false_eq_true, Bool.true_eq_false, Bool.not_true, Bool.not_false, Bool.not_eq_true', Bool.not_eq_false', Bool.not_eq_eq_eq_not, isi_int, isi_intb, if_true, Bool.if_true_left, ok_callKX, o_catt, o_catl, o_slit, o_slil, ok_fn, turn_nx, turn_rt, ok_some]
        refine ⟨by omega, by omega, by omega, by omega, by omega, by omega, by omega, ?_⟩
        refine for_st (k := 0) (fun _ ρ _ => ∃ v1 v2 v5 v6 v7 v8 v9 v12 v13 v14 v15 v16 v17, ρ = [some (.s ns), v1, v2, some (.d (rowD zs)), some (.d (rowD a)), v5, v6, v7, v8, v9, some (.d (rowD b)), some (.d (rowD c)), v12, v13, v14, v15, v16, v17]) (fun i d ρ s hd hI => ?_) (fun ρ s hI => ?_) ⟨_, _, _, _, _, _, _, _, _, _, _, _, _, rfl⟩
        · obtain ⟨v1, v2, v5, v6, v7, v8, v9, v12, v13, v14, v15, v16, v17, rfl⟩ := hI
          obtain ⟨p, q, r, rfl, hp, hq, hr⟩ : ∃ p q r, d = .tuple [rowD p, rowD q, rowD r] ∧ Fits zs p ∧ Fits zs q ∧ Fits zs r := by
            have m := List.mem_of_getElem? hd
            simp only [List.mem_cons, List.not_mem_nil, or_false] at m
            rcases m with rfl | rfl | rfl | rfl | rfl | rfl
            · exact ⟨_, _, _, rfl, ha, hb, hc⟩
            · exact ⟨_, _, _, rfl, hb, hc, ha⟩
            · exact ⟨_, _, _, rfl, hc, ha, hb⟩
            · exact ⟨_, _, _, rfl, ha, ha, hb⟩
            · exact ⟨_, _, _, rfl, ha, hb, ha⟩
            · exact ⟨_, _, _, rfl, hb, ha, ha⟩
          have lp : p.length = zs.length := by simpa using hp.1
          have lq : q.length = zs.length := by simpa using hq.1
          have lr : r.length = zs.length := by simpa using hr.1
          have lm : (mix p q r).length = zs.length := by rw [mix_len (by omega) (by omega), lp]
          have hmx := mix_fits hp hq hr
          simp only [Ss.ev, S.ev, Sm.ev, T.ev, T.evF, EF.B.ev, I.ev, As.ev, Ws.ev, O.ev, BOp.d, COp.d, F1.d, ok_seq, ok_ifS, ok_set1, ok_setS, ok_ret, ok_retn, ok_drop, ok_par, ok_putX, ok_new, ok_retc, ok_setc, ok_skip, ok_brk, ok_cnt, then_nx, then_rt, then_bk, then_ct, ok_rdV, ok_bin2, ok_un1, ok_k, ok_asB, isB_b, ok_andX, ok_orX, ok_notX, ok_andB, ok_orB, ok_notB, ok_iteX, ok_nilX, ok_consX, ok_tupX, ok_fitX, ok_lsX, ok_cixX, ok_rdC, contD_c, contD_s, at3_0, at3_1, at3_2, ix3_0, ix3_1, ix3_2, isI_i, ok_someO, ok_noO, ok_sliX, ok_csliX, ok_rdCV, ok_tyX, ok_isiX, ok_chn, ok_nilW, ok_consW, ok_datW, ok_celW, ok_callX, isD_d, isP_p, ok_appX, ok_bind, ok_pure, ok_ofOpt, oko_some, oko_none, slotD_d, slotC_c, o_add, o_sub, o_mul, o_fdiv, o_pow, o_mod, o_lt, o_le, o_gt, o_ge, o_eq, o_ne, o_int, List.getElem?_cons_zero, List.getElem?_cons_succ, List.set_cons_zero, List.set_cons_succ, Nat.reduceAdd, List.set_cons_zero, exists_eq_left, exists_eq_left', end_d, end_nx, end_c, Option.some.injEq, decide_eq_true_eq, decide_eq_false_iff_not, ok_anyI, seq_t, seq_l, ok_rng1, ok_enum, ok_lcF, ok_forS, put_nm, put_tp2, put_tp3, wipeR, startR, List.map_cons, List.map_nil, List.length_cons, List.length_nil, List.replicate, List.cons_append, List.nil_append, true_implies, false_implies, forall_const, and_true, true_and, and_false, false_and, Bool.false_eq_true, Bool.true_eq_false, Bool.not_true, Bool.not_false, Bool.not_eq_true', Bool.not_eq_false', Bool.not_eq_eq_eq_not, isi_int, isi_intb, if_true, Bool.if_true_left, ok_callKX, o_catt, o_catl, o_slit, o_slil, ok_fn, turn_nx, turn_rt, ok_some, len_row]
          refine ⟨Nat.zero_le _, small_ok (by omega) (by omega), ?_⟩
          refine for_st (k := 0) (fun i ρ s' => ∃ v17, ρ = [some (.s ns), v1, v2, some (.d (rowD zs)), some (.d (rowD a)), v5, v6, v7, v8, v9, some (.d (rowD b)), some (.d (rowD c)), v12, some (.d (rowD p)), some (.d (rowD q)), some (.d (rowD r)), some (.c s.length), v17] ∧
            lstAt s' s.length = some (((mix p q r).take i).map .int) ∧ s.length < s'.length) (fun i d ρ s' hd hI => ?_) (fun ρ s' hI => ?_) ⟨_, rfl, ?_, ?_⟩
          · obtain ⟨v17, rfl, hL, hlt⟩ := hI
            obtain ⟨hi, rfl⟩ := rng_mem hd
            rw [Int.toNat_natCast] at hi
            rw [Nat.zero_add] at hL
            have hzi := List.getElem?_eq_getElem hi
            obtain ⟨x, hx, _⟩ := hp.at_ hzi
            obtain ⟨y, hy, _⟩ := hq.at_ hzi
            obtain ⟨z, hz2, _⟩ := hr.at_ hzi
            have hm2 := mix_at hx hy hz2
            have tk : (mix p q r).take (0 + i + 1) = (mix p q r).take i ++ [if x = y then x else z] := by
              rw [Nat.zero_add, List.take_add_one, hm2]
              rfl
            simp only [Ss.ev, S.ev, Sm.ev, T.ev, T.evF, EF.B.ev, I.ev, As.ev, Ws.ev, O.ev, BOp.d, COp.d, F1.d, ok_seq, ok_ifS, ok_set1, ok_setS, ok_ret, ok_retn, ok_drop, ok_par, ok_putX, ok_new, ok_retc, ok_setc, ok_skip, ok_brk, ok_cnt, then_nx, then_rt, then_bk, then_ct, ok_rdV, ok_bin2, ok_un1, ok_k, ok_asB, isB_b, ok_andX, ok_orX, ok_notX, ok_andB, ok_orB, ok_notB, ok_iteX, ok_nilX, ok_consX, ok_tupX, ok_fitX, ok_lsX, ok_cixX, ok_rdC, contD_c, contD_s, at3_0, at3_1, at3_2, ix3_0, ix3_1, ix3_2, isI_i, ok_someO, ok_noO, ok_sliX, ok_csliX, ok_rdCV, ok_tyX, ok_isiX, ok_chn, ok_nilW, ok_consW, ok_datW, ok_celW, ok_callX, isD_d, isP_p, ok_appX, ok_bind, ok_pure, ok_ofOpt, oko_some, oko_none, slotD_d, slotC_c, o_add, o_sub, o_mul, o_fdiv, o_pow, o_mod, o_lt, o_le, o_gt, o_ge, o_eq, o_ne, o_int, List.getElem?_cons_zero, List.getElem?_cons_succ, List.set_cons_zero, List.set_cons_succ, Nat.reduceAdd, List.set_cons_zero, exists_eq_left, exists_eq_left', end_d, end_nx, end_c, Option.some.injEq, decide_eq_true_eq, decide_eq_false_iff_not, ok_anyI, seq_t, seq_l, ok_rng1, ok_enum, ok_lcF, ok_forS, put_nm, put_tp2, put_tp3, wipeR, startR, List.map_cons, List.map_nil, List.length_cons, List.length_nil, List.replicate, List.cons_append, List.nil_append, true_implies, false_implies, forall_const, and_true, true_and, and_false, false_and, Bool.false_eq_true, Bool.true_eq_false, Bool.not_true, Bool.not_false, Bool.not_eq_true', Bool.not_eq_false', Bool.not_eq_eq_eq_not, isi_int, isi_intb, if_true, Bool.if_true_left, ok_callKX, o_catt, o_catl, o_slit, o_slil, ok_fn, turn_nx, turn_rt, ok_some, hL, ix_row hx, ix_row hy, ix_row hz2]
            have fin : ∀ w : Int, (if x = y then x else z) = w → (((mix p q r).take i).map PyData.int).length < sizeLine ∧ ∃ v17_1, ([some (.s ns), v1, v2, some (.d (rowD zs)), some (.d (rowD a)), v5, v6, v7, v8, v9, some (.d (rowD b)), some (.d (rowD c)), v12, some (.d (rowD p)), some (.d (rowD q)), some (.d (rowD r)), some (.c s.length), some (.d (.int (i : Int)))] : Rho) = [some (.s ns), v1, v2, some (.d (rowD zs)), some (.d (rowD a)), v5, v6, v7, v8, v9, some (.d (rowD b)), some (.d (rowD c)), v12, some (.d (rowD p)), some (.d (rowD q)), some (.d (rowD r)), some (.c s.length), v17_1] ∧
                lstAt (s'.set s.length (some (((mix p q r).take i).map PyData.int ++ [.int w]))) s.length = some (((mix p q r).take (0 + i + 1)).map .int) ∧ s.length < (s'.set s.length (some (((mix p q r).take i).map PyData.int ++ [.int w]))).length := fun w hw => by
              refine ⟨by rw [List.length_map, List.length_take]; omega, _, rfl, ?_, by rw [List.length_set]; exact hlt⟩
              rw [lstAt_set hlt, tk, hw, List.map_append]
              rfl
            exact ⟨fun h => fin x (if_pos h), fun h => fin z (if_neg h)⟩
          · obtain ⟨v17, rfl, hL, hlt⟩ := hI
            rw [Nat.zero_add, rngD_len, Int.toNat_natCast, ← lm, List.take_length] at hL
            have er : PyData.tuple ((mix p q r).map .int) = rowD (mix p q r) := rfl
            simp only [Ss.ev, S.ev, Sm.ev, T.ev, T.evF, EF.B.ev, I.ev, As.ev, Ws.ev, O.ev, BOp.d, COp.d, F1.d, ok_seq, ok_ifS, ok_set1, ok_setS, ok_ret, ok_retn, ok_drop, ok_par, ok_putX, ok_new, ok_retc, ok_setc, ok_skip, ok_brk, ok_cnt, then_nx, then_rt, then_bk, then_ct, ok_rdV, ok_bin2, ok_un1, ok_k, ok_asB, isB_b, ok_andX, ok_orX, ok_notX, ok_andB, ok_orB, ok_notB, ok_iteX, ok_nilX, ok_consX, ok_tupX, ok_fitX, ok_lsX, ok_cixX, ok_rdC, contD_c, contD_s, at3_0, at3_1, at3_2, ix3_0, ix3_1, ix3_2, isI_i, ok_someO, ok_noO, ok_sliX, ok_csliX, ok_rdCV, ok_tyX, ok_isiX, ok_chn, ok_nilW, ok_consW, ok_datW, ok_celW, ok_callX, isD_d, isP_p, ok_appX, ok_bind, ok_pure, ok_ofOpt, oko_some, oko_none, slotD_d, slotC_c, o_add, o_sub, o_mul, o_fdiv, o_pow, o_mod, o_lt, o_le, o_gt, o_ge, o_eq, o_ne, o_int, List.getElem?_cons_zero, List.getElem?_cons_succ, List.set_cons_zero, List.set_cons_succ, Nat.reduceAdd, List.set_cons_zero, exists_eq_left, exists_eq_left', end_d, end_nx, end_c, Option.some.injEq, decide_eq_true_eq, decide_eq_false_iff_not, ok_anyI, seq_t, seq_l, ok_rng1, ok_enum, ok_lcF, ok_forS, put_nm, put_tp2, put_tp3, wipeR, startR, List.map_cons, List.map_nil, List.length_cons, List.length_nil, List.replicate, List.cons_append, List.nil_append, true_implies, false_implies, forall_const, and_true, true_and, and_false, false_and, Bool.false_eq_true, Bool.true_eq_false, Bool.not_true, Bool.not_false, Bool.not_eq_true', Bool.not_eq_false', Bool.not_eq_eq_eq_not, isi_int, isi_intb, if_true, Bool.if_true_left, ok_callKX, o_catt, o_catl, o_slit, o_slil, ok_fn, turn_nx, turn_rt, ok_some, hL, mixed_eq hz hp hq hr, pick, List.getD_cons_zero, List.getD_cons_succ, tup_l, er, repr_row hz hmx, o_nes (strOk_row hz hmx)]
            exact ⟨by decide, by decide, _, _, _, _, _, _, _, _, _, _, _, _, _, rfl⟩
          · exact lstAt_of (by simp)
          · simp
        · obtain ⟨v1, v2, v5, v6, v7, v8, v9, v12, v13, v14, v15, v16, v17, rfl⟩ := hI
          simp only [Ss.ev, S.ev, Sm.ev, T.ev, T.evF, EF.B.ev, I.ev, As.ev, Ws.ev, O.ev, BOp.d, COp.d, F1.d, ok_seq, ok_ifS, ok_set1, ok_setS, ok_ret, ok_retn, ok_drop, ok_par, ok_putX, ok_new, ok_retc, ok_setc, ok_skip, ok_brk, ok_cnt, then_nx, then_rt, then_bk, then_ct, ok_rdV, ok_bin2, ok_un1, ok_k, ok_asB, isB_b, ok_andX, ok_orX, ok_notX, ok_andB, ok_orB, ok_notB, ok_iteX, ok_nilX, ok_consX, ok_tupX, ok_fitX, ok_lsX, ok_cixX, ok_rdC, contD_c, contD_s, at3_0, at3_1, at3_2, ix3_0, ix3_1, ix3_2, isI_i, ok_someO, ok_noO, ok_sliX, ok_csliX, ok_rdCV, ok_tyX, ok_isiX, ok_chn, ok_nilW, ok_consW, ok_datW, ok_celW, ok_callX, isD_d, isP_p, ok_appX, ok_bind, ok_pure, ok_ofOpt, oko_some, oko_none, slotD_d, slotC_c, o_add, o_sub, o_mul, o_fdiv, o_pow, o_mod, o_lt, o_le, o_gt, o_ge, o_eq, o_ne, o_int, List.getElem?_cons_zero, List.getElem?_cons_succ, List.set_cons_zero, List.set_cons_succ, Nat.reduceAdd, List.set_cons_zero, exists_eq_left, exists_eq_left', end_d, end_nx, end_c, Option.some.injEq, decide_eq_true_eq, decide_eq_false_iff_not, ok_anyI, seq_t, seq_l, ok_rng1, ok_enum, ok_lcF, ok_forS, put_nm, put_tp2, put_tp3, wipeR, startR, List.map_cons, List.map_nil, List.length_cons, List.length_nil, List.replicate, List.cons_append, List.nil_append, true_implies, false_implies, forall_const, and_true, true_and, and_false, false_and, Bool.false_eq_true, Bool.true_eq_false, Bool.not_true, Bool.not_false, Bool.not_eq_true', Bool.not_eq_false', Bool.not_eq_eq_eq_not, isi_int, isi_intb, if_true, Bool.if_true_left, ok_callKX, o_catt, o_catl, o_slit, o_slil, ok_fn, turn_nx, turn_rt, ok_some]
          exact ⟨_, _, _, _, _, _, _, _, _, _, _, _, _, _, _, _, _, rfl⟩
  · obtain ⟨x1, x2, x3, x4, x5, x6, x7, x8, x9, x10, x11, x12, x13, x14, x15, x16, x17, rfl⟩ := hI
    simp only [Ss.ev, S.ev, Sm.ev, T.ev, T.evF, EF.B.ev, I.ev, As.ev, Ws.ev, O.ev, BOp.d, COp.d, F1.d, ok_seq, ok_ifS, ok_set1, ok_setS, ok_ret, ok_retn, ok_drop, ok_par, ok_putX, ok_new, ok_retc, ok_setc, ok_skip, ok_brk, ok_cnt, then_nx, then_rt, then_bk, then_ct, ok_rdV, ok_bin2, ok_un1, ok_k, ok_asB, isB_b, ok_andX, ok_orX, ok_notX, ok_andB, ok_orB, ok_notB, ok_iteX, ok_nilX, ok_consX, ok_tupX, ok_fitX, ok_lsX, ok_cixX, ok_rdC, contD_c, contD_s, at3_0, at3_1, at3_2, ix3_0, ix3_1, ix3_2, isI_i, ok_someO, ok_noO, ok_sliX, ok_csliX, ok_rdCV, ok_tyX, ok_isiX, ok_chn, ok_nilW, ok_consW, ok_datW, ok_celW, ok_callX, isD_d, isP_p, ok_appX, ok_bind, ok_pure, ok_ofOpt, oko_some, oko_none, slotD_d, slotC_c, o_add, o_sub, o_mul, o_fdiv, o_pow, o_mod, o_lt, o_le, o_gt, o_ge, o_eq, o_ne, o_int, List.getElem?_cons_zero, List.getElem?_cons_succ, List.set_cons_zero, List.set_cons_succ, Nat.reduceAdd, List.set_cons_zero, exists_eq_left, exists_eq_left', end_d, end_nx, end_c, Option.some.injEq, decide_eq_true_eq, decide_eq_false_iff_not, ok_anyI, seq_t, seq_l, ok_rng1, ok_enum, ok_lcF, ok_forS, put_nm, put_tp2, put_tp3, wipeR, startR, List.map_cons, List.map_nil, List.length_cons, List.length_nil, List.replicate, List.cons_append, List.nil_append, true_implies, false_implies, forall_const, and_true, true_and, and_false, false_and, Bool.false_eq_true, Bool.true_eq_false, Bool.not_true, Bool.not_false, Bool.not_eq_true', Bool.not_eq_false', Bool.not_eq_eq_eq_not, isi_int, isi_intb, if_true, Bool.if_true_left, ok_callKX, o_catt, o_catl, o_slit, o_slil, ok_fn, turn_nx, turn_rt, ok_some]
end K06

set_option Elab.async false
set_option linter.all false
set_option maxRecDepth 100000
set_option maxHeartbeats 8000000
namespace K06
open PySem PySem.Spec PyProof.Rows L2 EF
/-! ### the head -/
abbrev R : PySem.W.OpenRow := PySem.W.OpenLaw.row PySem.Challenge.rw_eitherfields_k06_agreeing_and_mixing
abbrev hk : PySem.W.Hook := He.hookD 4 fa fn
def ob (s : PySem.W.SharedT) : He.AlD := He.obsDG 4 fa fn (HandSHeadRun.getT s)
theorem ob_eq (s : PySem.W.SharedT) : ob s = hk.obs s.abs := He.obsDG_eq (HandSHeadRun.getT_eq s)
def loose : List Str := ["__name__", "FieldError", "InvalidSheet", "InvalidPart", "InvalidFilling", "MOST_FIELDS", "MOST_VALUES", "between", "sheet_fits", "entry_fits", "part_fits", "filling_fits", "need_sheet", "need_part", "need_filling", "agrees", "mixed", "_law_pouch", "_law_take", "_law_draw_sizes", "_law_draw_row", "_law_draw_partial", "_law_near"]
theorem run (w : World) : HandSHeadRun.RunEq R (PySem.W.view R.prog [26]) hk ob 4000 loose w := by
  intro os
  kernel_rfl
end K06
open PySem PySem.W PySem.Calls PyProof.Rows
theorem PySem.Challenge.cw_eitherfields_k06_agreeing_and_mixing_holds : PySem.Challenge.rw_eitherfields_k06_agreeing_and_mixing.Holds := by
  w_on; o_law
  refine HandSHeadRun.head_any (r := OpenLaw.row PySem.Challenge.rw_eitherfields_k06_agreeing_and_mixing) (q := view (OpenLaw.row PySem.Challenge.rw_eitherfields_k06_agreeing_and_mixing).prog [26]) (H := K06.hk) (ob := K06.ob) (M := 4000) (loose := K06.loose) (d := HandSHeadRun.topDef (OpenLaw.row PySem.Challenge.rw_eitherfields_k06_agreeing_and_mixing).prog 26) (kwd := []) K06.ob_eq
    (by kernel_rfl) (fun s => by kernel_rfl) K06.run (by kernel_rfl) (by kernel_rfl) (by kernel_rfl) (by rfl) (by first | assumption | decide +kernel) (by decide +kernel) ⟨rfl, rfl, rfl, rfl, rfl, by decide +kernel⟩ ?hw ?hc
  case hw => w_witness2
  case hc =>
    refine EF.end_walk (l := PySem.Challenge.rw_eitherfields_k06_agreeing_and_mixing) (n := 63) (k := 7) (x := "script") (g := K06.g_law) rfl (by decide) (by kernel_rfl) ⟨rfl, by decide, by decide⟩ ?F K06.pure_law
    intro w mg fa h Y G hmg0
    obtain ⟨K, KX, c⟩ := Y
    have hmg : mg ("law" : PySem.Str) = some (.ref fa) := by
      have e : (HandSHeadRun.topDef (OpenLaw.row PySem.Challenge.rw_eitherfields_k06_agreeing_and_mixing).prog 26).name = ("law" : PySem.Str) := by kernel_rfl
      rw [← e]
      exact hmg0
    obtain ⟨fd, hb, hF⟩ := K06.fns (P := (PySem.Challenge.rw_eitherfields_k06_agreeing_and_mixing).prog) (w := w) KX G hmg c
    exact ⟨K, fd, KX, hb, hF⟩

