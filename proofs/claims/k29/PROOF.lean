import PyProof.Rows.All
import Wide.All
import OpenK.AllK
import Wide.FinOn
import HandS.Base
import HandS.Call
import HandS.List
import HandS.Comp
import HandS.Ends
import HandS.Words
import HandS.Evl
import PyProof.ReprRoads
import PyProof.CallFns
import HandS.Dict
import HandS.EndBits
import HandS.Wide
import HandS.IsInst
import HandS.Deep
import HandS.TupAny
import HandS.Style
import HandS.Replace
import HandS.Text
import KE.DataMinMax
import PyProof.NeKinds
import HandS.Iter
import KE.KMulAny
import KE.KItemsList
import KE.KDictZip
import HandS.ListItems
import HandS.Star
import HandS.FStr
import HandS.Exc
import HandS.ExcOwn
import HandS.ExcInit
import HandS.ExcField
import HandS.TryMany
import HandS.WordsExc
import PyProof.DictWalks
import PyProof.MeetsSeq
import HandS.More
import PyProof.ListStr
import KE.KDictList
import PySem.Challenge.RW_squeezedkeyer_k29_letters_broken_and_joi
set_option Elab.async false
set_option linter.all false
set_option maxRecDepth 100000
set_option maxHeartbeats 2000000
/-! states of data, without a heap: what an expression gives, what a block does -/
namespace PW
open PySem L2 Evl

abbrev D := PyData
abbrev Fg := PySem.W.Frag
/-- an object that the body owns and changes -/
inductive MO where
  | lst (ds : List D)
  | dic (kvs : List (Key × D))
  | gone
/-- what a slot holds: data, or the k-th owned object -/
inductive C where
  | dat (d : D)
  | own (k : Nat)
abbrev Dl := List (Option C)
abbrev Ms := List MO

/-! ### data: as the library's, and dicts of texts to leaves -/
def lfD : D → Bool
  | .none => true
  | .bool _ => true
  | .int _ => true
  | .str _ => true
  | _ => false
def lfV : D → V
  | .none => .non
  | .bool b => .bl b
  | .int i => .int i
  | .str x => .str x
  | _ => .non
mutual
inductive Dp (K : Fg) (H : Hp) : V → D → Prop
  | non : Dp K H .non .none
  | bl (b : Bool) : Dp K H (.bl b) (.bool b)
  | int (i : Int) : Dp K H (.int i) (.int i)
  | str (x : Str) : Dp K H (.str x) (.str x)
  | lst {a : Addr} {xs : List V} {ds : List D} : SqL K H a xs → DpAll K H xs ds → Dp K H (.ref a) (.list ds)
  | tup {a : Addr} {xs : List V} {ds : List D} : SqT K H a xs → DpAll K H xs ds → Dp K H (.ref a) (.tuple ds)
  | dic {a : Addr} {ps : List (Str × D)} {ks : List (D × D)} : ks = (ps.map fun p => (PyData.str p.1, p.2)) → L2.Rd H a (.dK (ps.map fun p => ((.inr p.1 : Key), lfV p.2))) → (ps.all fun p => lfD p.2) = true → Dp K H (.ref a) (.dict ks)
inductive DpAll (K : Fg) (H : Hp) : List V → List D → Prop
  | nil : DpAll K H [] []
  | cons {v : V} {vs : List V} {d : D} {ds : List D} : Dp K H v d → DpAll K H vs ds → DpAll K H (v :: vs) (d :: ds)
end
/-! ### data stays when the heap grows -/
mutual
theorem dp_mono {K : Fg} {H H' : Hp} (e : Ex H H') : ∀ (d : D) (v : V), Dp K H v d → Dp K H' v d
  | .none, _, h => by cases h; exact .non
  | .bool b, _, h => by cases h; exact .bl b
  | .int i, _, h => by cases h; exact .int i
  | .str x, _, h => by cases h; exact .str x
  | .list ds, _, h => by
    cases h with
    | lst hs ha => exact .lst (ex_l e hs) (dpa_mono e ds _ ha)
  | .tuple ds, _, h => by
    cases h with
    | tup hs ha => exact .tup (ex_t e hs) (dpa_mono e ds _ ha)
  | .dict _, _, h => by
    cases h with
    | dic h0 h1 h2 => exact .dic h0 (h1.imp (e _ _) fun ⟨o, h⟩ => ⟨o, e _ _ h⟩) h2
theorem dpa_mono {K : Fg} {H H' : Hp} (e : Ex H H') : ∀ (ds : List D) (vs : List V), DpAll K H vs ds → DpAll K H' vs ds
  | [], _, h => by cases h; exact .nil
  | d :: ds, _, h => by
    cases h with
    | cons h1 h2 => exact .cons (dp_mono e d _ h1) (dpa_mono e ds _ h2)
end
theorem Dp.up {K : Fg} {H H' : Hp} {v : V} {d : D} (h : Dp K H v d) (e : Ex H H') : Dp K H' v d := dp_mono e d v h
theorem DpAll.up {K : Fg} {H H' : Hp} {vs : List V} {ds : List D} (h : DpAll K H vs ds) (e : Ex H H') : DpAll K H' vs ds := dpa_mono e ds vs h
section
variable {K : Fg} {H : Hp}
theorem DpAll.length {vs : List V} {ds : List D} (h : DpAll K H vs ds) : vs.length = ds.length := by
  induction vs generalizing ds with
  | nil => cases h; rfl
  | cons v vs ih => cases h with | cons h1 h2 => simp [ih h2]
theorem DpAll.get {vs : List V} {ds : List D} (h : DpAll K H vs ds) {i : Nat} {v : V} (hv : vs[i]? = some v) : ∃ d, ds[i]? = some d ∧ Dp K H v d := by
  induction vs generalizing ds i with
  | nil => simp at hv
  | cons w vs ih =>
    cases h with
    | cons h1 h2 =>
      cases i with
      | zero => simp at hv; subst hv; exact ⟨_, rfl, h1⟩
      | succ i => exact ih h2 (by simpa using hv)
theorem DpAll.got {vs : List V} {ds : List D} (h : DpAll K H vs ds) {i : Nat} {d : D} (hd : ds[i]? = some d) : ∃ v, vs[i]? = some v ∧ Dp K H v d := by
  induction vs generalizing ds i with
  | nil => cases h; simp at hd
  | cons w vs ih =>
    cases h with
    | cons h1 h2 =>
      cases i with
      | zero => simp at hd; subst hd; exact ⟨_, rfl, h1⟩
      | succ i => exact ih h2 (by simpa using hd)
theorem DpAll.app {vs ws : List V} {ds es : List D} (h : DpAll K H vs ds) (g : DpAll K H ws es) : DpAll K H (vs ++ ws) (ds ++ es) := by
  induction vs generalizing ds with
  | nil => cases h; exact g
  | cons v vs ih => cases h with | cons h1 h2 => exact .cons h1 (ih h2)
theorem DpAll.take {vs : List V} {ds : List D} (h : DpAll K H vs ds) (n : Nat) : DpAll K H (vs.take n) (ds.take n) := by
  induction vs generalizing ds n with
  | nil => cases h; simp; exact .nil
  | cons v vs ih =>
    cases h with
    | cons h1 h2 =>
      cases n with
      | zero => exact .nil
      | succ n => exact .cons h1 (ih h2 n)
theorem DpAll.drop {vs : List V} {ds : List D} (h : DpAll K H vs ds) (n : Nat) : DpAll K H (vs.drop n) (ds.drop n) := by
  induction vs generalizing ds n with
  | nil => cases h; simp; exact .nil
  | cons v vs ih =>
    cases h with
    | cons h1 h2 =>
      cases n with
      | zero => exact .cons h1 h2
      | succ n => exact ih h2 n
theorem DpAll.set {vs : List V} {ds : List D} (h : DpAll K H vs ds) (i : Nat) {v : V} {d : D} (g : Dp K H v d) : DpAll K H (vs.set i v) (ds.set i d) := by
  induction vs generalizing ds i with
  | nil => cases h; exact .nil
  | cons w vs ih =>
    cases h with
    | cons h1 h2 =>
      cases i with
      | zero => exact .cons g h2
      | succ i => exact .cons h1 (ih h2 i)
theorem DpAll.rev {vs : List V} {ds : List D} (h : DpAll K H vs ds) : DpAll K H vs.reverse ds.reverse := by
  induction vs generalizing ds with
  | nil => cases h; exact .nil
  | cons v vs ih =>
    cases h with
    | cons h1 h2 =>
      rw [List.reverse_cons, List.reverse_cons]
      exact (ih h2).app (.cons h1 .nil)
theorem DpAll.one {v : V} {d : D} (h : Dp K H v d) : DpAll K H [v] [d] := .cons h .nil
end

/-! ### the relation of a data state to a heap -/
/-- the object at l is m; its items are data of Hd -/
def MAt (K : Fg) (Hd H : Hp) (l : Addr) : MO → Prop
  | .lst ds => Hd l = none ∧ ∃ xs, H l = some (.lst xs) ∧ DpAll K Hd xs ds
  | .dic kvs => Hd l = none ∧ ∃ us : List (Key × V), H l = some (.dK us) ∧ us.map (·.1) = kvs.map (·.1) ∧ DpAll K Hd (us.map (·.2)) (kvs.map (·.2))
  | .gone => Hd l ≠ none
structure Sta (K : Fg) (δ : Dl) (M : Ms) (σ : L2.St) (H Hd : Hp) (ls : List Addr) : Prop where
  sub : Ex Hd H
  mlen : ls.length = M.length
  nd : ls.Nodup
  obj : ∀ (k : Nat) l m, ls[k]? = some l → M[k]? = some m → MAt K Hd H l m
  dlen : σ.length = δ.length
  dat : ∀ (i : Nat) d, δ[i]? = some (some (.dat d)) → ∃ v, σ[i]? = some (some v) ∧ Dp K Hd v d
  own : ∀ (i : Nat) k, δ[i]? = some (some (.own k)) → ∃ l, ls[k]? = some l ∧ σ[i]? = some (some (.ref l))
/-- from one heap to a later one: only the objects at ls have changed, new ones have come -/
structure Step (H Hd : Hp) (ls : List Addr) (H' Hd' : Hp) : Prop where
  ext : Ex Hd Hd'
  old : ∀ a o, H a = some o → a ∉ ls → H' a = some o
  new : ∀ a, H a ≠ none → Hd a = none → Hd' a = none
  there : ∀ a, H a ≠ none → H' a ≠ none
theorem Step.refl {H Hd : Hp} {ls : List Addr} : Step H Hd ls H Hd := ⟨Ex.refl _, fun _ _ h _ => h, fun _ _ h => h, fun _ h => h⟩
theorem Step.trans {H Hd H1 Hd1 H2 Hd2 : Hp} {ls : List Addr} (a : Step H Hd ls H1 Hd1) (b : Step H1 Hd1 ls H2 Hd2) : Step H Hd ls H2 Hd2 :=
  ⟨a.ext.trans b.ext, fun x o h n => b.old x o (a.old x o h n) n, fun x h n => b.new x (a.there x h) (a.new x h n), fun x h => b.there x (a.there x h)⟩
theorem Step.sub {H Hd H1 Hd1 : Hp} {ls ls' : List Addr} (a : Step H Hd ls H1 Hd1) (h : ∀ x, x ∈ ls → H x ≠ none → x ∈ ls') : Step H Hd ls' H1 Hd1 :=
  ⟨a.ext, fun x o e n => a.old x o e fun m => n (h x m (by rw [e]; simp)), a.new, a.there⟩

/-! ### judgements -/
def WE (K : Fg) (t : TE) (δ : Dl) (M : Ms) (R : D → Ms → Prop) : Prop :=
  ∀ σ H Hd ls Q, Sta K δ M σ H Hd ls → (∀ v d M' H' Hd', Sta K δ M' σ H' Hd' ls → Step H Hd ls H' Hd' → Dp K Hd' v d → R d M' → Q v H') → t σ H Q
/-- a fresh list that nothing knows yet -/
def WL (K : Fg) (t : TE) (δ : Dl) (M : Ms) (R : List D → Ms → Prop) : Prop :=
  ∀ σ H Hd ls Q, Sta K δ M σ H Hd ls → (∀ p xs ds M' H' Hd', Sta K δ M' σ H' Hd' ls → Step H Hd ls H' Hd' → H p = none → Hd' p = none → p ∉ ls → H' p = some (.lst xs) → DpAll K Hd' xs ds → R ds M' → Q (.ref p) H') → t σ H Q
/-- a value of the slots' kind -/
def VC (K : Fg) (Hd : Hp) (ls : List Addr) (v : V) : C → Prop
  | .dat d => Dp K Hd v d
  | .own k => ∃ l, ls[k]? = some l ∧ v = .ref l
inductive VCs (K : Fg) (Hd : Hp) (ls : List Addr) : List V → List C → Prop
  | nil : VCs K Hd ls [] []
  | cons {v : V} {c : C} {vs : List V} {cs : List C} : VC K Hd ls v c → VCs K Hd ls vs cs → VCs K Hd ls (v :: vs) (c :: cs)
def WA (K : Fg) (t : TA) (δ : Dl) (M : Ms) (R : List C → Ms → Prop) : Prop :=
  ∀ σ H Hd ls Q, Sta K δ M σ H Hd ls → (∀ vs cs M' H' Hd', Sta K δ M' σ H' Hd' ls → Step H Hd ls H' Hd' → VCs K Hd' ls vs cs → R cs M' → Q vs H') → t σ H Q
def WT (K : Fg) (t : TT) (δ : Dl) (M : Ms) (R : Bool → Ms → Prop) : Prop :=
  ∀ σ H Hd ls Q, Sta K δ M σ H Hd ls → (∀ b M' H' Hd', Sta K δ M' σ H' Hd' ls → Step H Hd ls H' Hd' → R b M' → Q b H') → t σ H Q
/-- where a body began -/
structure Ent where
  H : Hp
  Hd : Hp
  ls : List Addr
structure Run (K : Fg) (e : Ent) (δ : Dl) (M : Ms) (σ : L2.St) (H Hd : Hp) (ls : List Addr) : Prop where
  sta : Sta K δ M σ H Hd ls
  step : Step e.H e.Hd e.ls H Hd
  pre : e.ls <+: ls
  loc : ∀ (k : Nat) l, ls[k]? = some l → e.ls.length ≤ k → e.H l = none
structure Po where
  nx : Dl → Ms → Prop
  rt : D → Ms → Prop
  bk : Dl → Ms → Prop := fun _ _ => False
  ct : Dl → Ms → Prop := fun _ _ => False
def WS (K : Fg) (t : TS) (δ : Dl) (M : Ms) (P : Po) : Prop :=
  ∀ (e : Ent) (σ : L2.St) (H Hd : Hp) (ls : List Addr) (W : Ends), Run K e δ M σ H Hd ls →
    (∀ δ' M' σ' H' Hd' ls', Run K e δ' M' σ' H' Hd' ls' → Ex Hd Hd' → ls <+: ls' → P.nx δ' M' → W.nx σ' H') →
    (∀ v d δ' M' σ' H' Hd' ls', Run K e δ' M' σ' H' Hd' ls' → Ex Hd Hd' → ls <+: ls' → Dp K Hd' v d → P.rt d M' → W.rt v H') →
    (∀ δ' M' σ' H' Hd' ls', Run K e δ' M' σ' H' Hd' ls' → Ex Hd Hd' → ls <+: ls' → P.bk δ' M' → W.bk σ' H') →
    (∀ δ' M' σ' H' Hd' ls', Run K e δ' M' σ' H' Hd' ls' → Ex Hd Hd' → ls <+: ls' → P.ct δ' M' → W.ct σ' H') → t W σ H

section
variable {K : Fg} {δ : Dl} {M M' : Ms} {σ : L2.St} {H Hd H' Hd' : Hp} {ls : List Addr} {e : Ent} {t ta tb : TE}
theorem MAt.up {l : Addr} {m : MO} (h : MAt K Hd H l m) (s : Step H Hd [] H' Hd') : MAt K Hd' H' l m := by
  cases m with
  | lst ds =>
    obtain ⟨n, xs, hx, ha⟩ := h
    exact ⟨s.new l (by rw [hx]; simp) n, xs, s.old l _ hx (by simp), ha.up s.ext⟩
  | dic kvs =>
    obtain ⟨n, us, hx, hk, ha⟩ := h
    exact ⟨s.new l (by rw [hx]; simp) n, us, s.old l _ hx (by simp), hk, ha.up s.ext⟩
  | gone =>
    intro z
    cases e : Hd l with
    | none => exact h e
    | some o => rw [s.ext l o e] at z; cases z
/-- nothing owned has changed -/
theorem Sta.up (a : Sta K δ M σ H Hd ls) (s : Step H Hd [] H' Hd') (x : Ex Hd' H') : Sta K δ M σ H' Hd' ls :=
  ⟨x, a.mlen, a.nd, fun k l m h1 h2 => (a.obj k l m h1 h2).up s, a.dlen, fun i d h => by
    obtain ⟨v, hv, hd⟩ := a.dat i d h
    exact ⟨v, hv, hd.up s.ext⟩, a.own⟩
theorem Step.all {ls' : List Addr} (s : Step H Hd [] H' Hd') : Step H Hd ls' H' Hd' := s.sub fun _ h => by simp at h
theorem Run.go (r : Run K e δ M σ H Hd ls) (a : Sta K δ M' σ H' Hd' ls) (s : Step H Hd ls H' Hd') : Run K e δ M' σ H' Hd' ls := by
  refine ⟨a, ⟨r.step.ext.trans s.ext, fun x o h n => ?_, fun x h n => s.new x (r.step.there x h) (r.step.new x h n), fun x h => s.there x (r.step.there x h)⟩, r.pre, r.loc⟩
  refine s.old x o (r.step.old x o h n) fun hm => ?_
  obtain ⟨k, hk, ek⟩ := List.getElem_of_mem hm
  by_cases hlt : k < e.ls.length
  · obtain ⟨tl, et⟩ := r.pre
    refine n ?_
    have : ls[k]? = e.ls[k]? := by rw [← et, List.getElem?_append_left hlt]
    rw [List.getElem?_eq_getElem hk, ek, List.getElem?_eq_getElem hlt] at this
    rw [Option.some.inj this]
    exact List.getElem_mem hlt
  · have := r.loc k x (by rw [List.getElem?_eq_getElem hk, ek]) (by omega)
    rw [h] at this; cases this
/-- a new object that nothing knows -/
theorem step_new {p : Addr} {o : HO} (h : H p = none) : Step H Hd [] (upd H p o) Hd :=
  ⟨Ex.refl _, fun a u e _ => by rw [upd_ne (ne_of_none e h)]; exact e, fun _ _ n => n, fun a e z => by
    by_cases q : a = p
    · subst q; exact e h
    · rw [upd_ne q] at z; exact e z⟩
theorem not_ls (a : Sta K δ M σ H Hd ls) {p : Addr} (h : H p = none) : p ∉ ls := fun hm => by
  obtain ⟨k, hk, ek⟩ := List.getElem_of_mem hm
  have hM : k < M.length := by rw [← a.mlen]; exact hk
  have := a.obj k p M[k] (by rw [List.getElem?_eq_getElem hk, ek]) (List.getElem?_eq_getElem hM)
  generalize M[k] = m at this
  cases m with
  | lst ds => obtain ⟨_, xs, hx, _⟩ := this; rw [h] at hx; cases hx
  | dic kvs => obtain ⟨_, xs, hx, _⟩ := this; rw [h] at hx; cases hx
  | gone =>
    cases e : Hd p with
    | none => exact this e
    | some o => rw [a.sub p o e] at h; cases h
end
end PW

set_option Elab.async false
set_option linter.all false
set_option maxRecDepth 100000
set_option maxHeartbeats 2000000
namespace PW
open PySem L2 Evl

/-- data arguments -/
def WD (K : Fg) (t : TA) (δ : Dl) (M : Ms) (R : List D → Ms → Prop) : Prop :=
  ∀ σ H Hd ls Q, Sta K δ M σ H Hd ls → (∀ vs ds M' H' Hd', Sta K δ M' σ H' Hd' ls → Step H Hd ls H' Hd' → DpAll K Hd' vs ds → R ds M' → Q vs H') → t σ H Q
/-- an operation on two data, a call on data: nothing that is owned changes -/
def OD (K : Fg) (r : R2) (x y : D) (R : D → Prop) : Prop :=
  ∀ H Hd v w Q, Ex Hd H → Dp K Hd v x → Dp K Hd w y → (∀ z d H' Hd', Step H Hd [] H' Hd' → Ex Hd' H' → Dp K Hd' z d → R d → Q z H') → r v w H Q
def CD (K : Fg) (r : List V → Hp → VK → Prop) (xs : List D) (R : D → Prop) : Prop :=
  ∀ H Hd vs Q, Ex Hd H → DpAll K Hd vs xs → (∀ z d H' Hd', Step H Hd [] H' Hd' → Ex Hd' H' → Dp K Hd' z d → R d → Q z H') → r vs H Q
/-- .. that gives a fresh list -/
def OL (K : Fg) (r : R2) (x y : D) (R : List D → Prop) : Prop :=
  ∀ H Hd v w Q, Ex Hd H → Dp K Hd v x → Dp K Hd w y → (∀ p xs ds, H p = none → DpAll K Hd xs ds → R ds → Q (.ref p) (upd H p (.lst xs))) → r v w H Q
def CL (K : Fg) (r : List V → Hp → VK → Prop) (zs : List D) (R : List D → Prop) : Prop :=
  ∀ H Hd vs Q, Ex Hd H → DpAll K Hd vs zs → (∀ p xs ds, H p = none → DpAll K Hd xs ds → R ds → Q (.ref p) (upd H p (.lst xs))) → r vs H Q

section
variable {K : Fg} {δ : Dl} {M M' : Ms} {R : D → Ms → Prop} {RL : List D → Ms → Prop} {RB : Bool → Ms → Prop} {te ta tb tc : TE} {ts tr : TA} {t u : TT} {r : R2} {rc : List V → Hp → VK → Prop}

theorem we_mono {R' : D → Ms → Prop} (h : WE K te δ M R) (hr : ∀ d M, R d M → R' d M) : WE K te δ M R' := fun σ H Hd ls Q a k => h σ H Hd ls Q a fun v d M' H' Hd' a' s dv q => k v d M' H' Hd' a' s dv (hr _ _ q)
theorem wt_mono {R' : Bool → Ms → Prop} (h : WT K t δ M RB) (hr : ∀ d M, RB d M → R' d M) : WT K t δ M R' := fun σ H Hd ls Q a k => h σ H Hd ls Q a fun v M' H' Hd' a' s q => k v M' H' Hd' a' s (hr _ _ q)
theorem wl_mono {R' : List D → Ms → Prop} (h : WL K te δ M RL) (hr : ∀ d M, RL d M → R' d M) : WL K te δ M R' := fun σ H Hd ls Q a k => h σ H Hd ls Q a fun p xs ds M' H' Hd' a' s h1 h2 h3 h4 h5 q => k p xs ds M' H' Hd' a' s h1 h2 h3 h4 h5 (hr _ _ q)

/-! ### leaves -/
theorem we_var {i : Nat} {d : D} (h : δ[i]? = some (some (.dat d))) (q : R d M) : WE K (tVar i) δ M R := fun σ H Hd ls Q a k => by
  obtain ⟨v, hv, dv⟩ := a.dat i d h
  exact ⟨v, hv, k v d M H Hd a Step.refl dv q⟩
theorem we_int {i : Int} (q : R (.int i) M) : WE K (tC (.int i)) δ M R := fun σ H Hd ls Q a k => k _ _ M H Hd a Step.refl (.int i) q
theorem we_bl {b : Bool} (q : R (.bool b) M) : WE K (tC (.bl b)) δ M R := fun σ H Hd ls Q a k => k _ _ M H Hd a Step.refl (.bl b) q
theorem we_str {x : Str} (q : R (.str x) M) : WE K (tC (.str x)) δ M R := fun σ H Hd ls Q a k => k _ _ M H Hd a Step.refl (.str x) q
theorem we_non (q : R .none M) : WE K (tC .non) δ M R := fun σ H Hd ls Q a k => k _ _ M H Hd a Step.refl .non q
/-- a constant of the module: data of the written part -/
theorem we_con {v : V} {d : D} (h : ∀ H, Dp K H v d) (q : R d M) : WE K (tC v) δ M R := fun σ H Hd ls Q a k => k _ _ M H Hd a Step.refl (h Hd) q

/-! ### operations -/
theorem we_op (h : WE K ta δ M fun x M1 => WE K tb δ M1 fun y M2 => OD K r x y fun d => R d M2) : WE K (tOp r ta tb) δ M R := fun σ H Hd ls Q a k =>
  h σ H Hd ls _ a fun v x M1 H1 Hd1 a1 s1 dv h1 => h1 σ H1 Hd1 ls _ a1 fun w y M2 H2 Hd2 a2 s2 dw h2 => h2 H2 Hd2 v w Q a2.sub (dv.up s2.ext) dw fun z d H3 Hd3 s3 x3 dz q =>
    k z d M2 H3 Hd3 (a2.up s3 x3) ((s1.trans s2).trans s3.all) dz q
theorem wl_op (h : WE K ta δ M fun x M1 => WE K tb δ M1 fun y M2 => OL K r x y fun ds => RL ds M2) : WL K (tOp r ta tb) δ M RL := fun σ H Hd ls Q a k =>
  h σ H Hd ls _ a fun v x M1 H1 Hd1 a1 s1 dv h1 => h1 σ H1 Hd1 ls _ a1 fun w y M2 H2 Hd2 a2 s2 dw h2 => h2 H2 Hd2 v w Q a2.sub (dv.up s2.ext) dw fun p xs ds hp da q => by
    have s12 := s1.trans s2
    refine k p xs ds M2 (upd H2 p (.lst xs)) Hd2 (a2.up (step_new hp) fun b o e => ?_) (s12.trans (step_new hp).all) ?_ ?_ (not_ls a2 hp) upd_same da q
    · have := a2.sub b o e
      rw [upd_ne (ne_of_none this hp)]; exact this
    · cases e : H p with
      | none => rfl
      | some o => exact absurd hp (s12.there p (by rw [e]; simp))
    · cases e : Hd2 p with
      | none => rfl
      | some o => rw [a2.sub p o e] at hp; cases hp
/-- a fresh list, taken as data -/
theorem we_wl (h : WL K te δ M fun ds M1 => R (.list ds) M1) : WE K te δ M R := fun σ H Hd ls Q a k =>
  h σ H Hd ls Q a fun p xs ds M1 H1 Hd1 a1 s1 hp hd nl hx da q => by
    have ex : Ex Hd1 (upd Hd1 p (.lst xs)) := Ex.new hd
    have st : Step H1 Hd1 [] H1 (upd Hd1 p (.lst xs)) → False ∨ True := fun _ => .inr trivial
    refine k (.ref p) (.list ds) M1 H1 (upd Hd1 p (.lst xs)) ⟨fun b o e => ?_, a1.mlen, a1.nd, fun i l m h1 h2 => ?_, a1.dlen, fun i d h1 => ?_, a1.own⟩ ⟨s1.ext.trans ex, s1.old, fun b h1 h2 => ?_, s1.there⟩ (.lst (SqL.of upd_same) (da.up ex)) q
    · by_cases e' : b = p
      · subst e'; rw [upd_same] at e; cases e; exact hx
      · rw [upd_ne e'] at e; exact a1.sub b o e
    · have hl : l ≠ p := fun z => nl (z ▸ List.mem_of_getElem? h1)
      have := a1.obj i l m h1 h2
      cases m with
      | lst es => obtain ⟨n, ys, hy, hs⟩ := this; exact ⟨by rw [upd_ne hl]; exact n, ys, hy, hs.up ex⟩
      | dic es => obtain ⟨n, ys, hy, hk, hs⟩ := this; exact ⟨by rw [upd_ne hl]; exact n, ys, hy, hk, hs.up ex⟩
      | gone =>
        show upd Hd1 p _ l ≠ none
        rw [upd_ne hl]; exact this
    · obtain ⟨v, hv, dv⟩ := a1.dat i d h1
      exact ⟨v, hv, dv.up ex⟩
    · have : b ≠ p := fun z => h1 (z ▸ hp)
      rw [upd_ne this]; exact s1.new b h1 h2
theorem we_un {f : V → Hp → VK → Prop} (h : WE K ta δ M fun x M1 => ∀ v H Hd Q, Dp K Hd v x → (∀ z d, (∀ H', Dp K H' z d) → R d M1 → Q z H) → f v H Q) : WE K (tUn f ta) δ M R := fun σ H Hd ls Q a k =>
  h σ H Hd ls _ a fun v x M1 H1 Hd1 a1 s1 dv h1 => h1 v H1 Hd1 Q dv fun z d dz q => k z d M1 H1 Hd1 a1 s1 (dz Hd1) q
theorem we_neg {i : Int} (q : R (.int (-i)) M) : (fun (x : D) (M1 : Ms) => ∀ v H Hd Q, Dp K Hd v x → (∀ z d, (∀ H', Dp K H' z d) → R d M1 → Q z H) → (rU fun i => .int (-i)) v H Q) (.int i) M := fun v H Hd Q dv k => by
  cases dv
  exact ⟨i, rfl, k _ _ (fun _ => .int _) q⟩

/-! ### arguments, displays -/
theorem wd_nil (q : RL [] M) : WD K tNil δ M RL := fun σ H Hd ls Q a k => k [] [] M H Hd a Step.refl .nil q
theorem wd_cons (h : WE K te δ M fun d M1 => WD K tr δ M1 fun ds M2 => RL (d :: ds) M2) : WD K (tCons te tr) δ M RL := fun σ H Hd ls Q a k =>
  h σ H Hd ls _ a fun v d M1 H1 Hd1 a1 s1 dv h1 => h1 σ H1 Hd1 ls _ a1 fun vs ds M2 H2 Hd2 a2 s2 da q => k (v :: vs) (d :: ds) M2 H2 Hd2 a2 (s1.trans s2) (.cons (dv.up s2.ext) da) q
theorem we_tup (h : WD K ts δ M fun ds M1 => ds.length ≤ sizeLine ∧ R (.tuple ds) M1) : WE K (tTup ts) δ M R := fun σ H Hd ls Q a k =>
  h σ H Hd ls _ a fun vs ds M1 H1 Hd1 a1 s1 da q => ⟨by rw [da.length]; exact q.1, fun p hp => by
    have hd : Hd1 p = none := by
      cases e : Hd1 p with
      | none => rfl
      | some o => rw [a1.sub p o e] at hp; cases hp
    have ex : Ex Hd1 (upd Hd1 p (.tup vs)) := Ex.new hd
    have st : Step H1 Hd1 [] (upd H1 p (.tup vs)) (upd Hd1 p (.tup vs)) := ⟨ex, (step_new hp (Hd := Hd1)).old, fun b h1 h2 => by
      have : b ≠ p := fun z => h1 (z ▸ hp)
      rw [upd_ne this]; exact h2, (step_new hp (Hd := Hd1)).there⟩
    refine k (.ref p) (.tuple ds) M1 _ _ (a1.up st fun b o e => ?_) (s1.trans st.all) (.tup (SqT.of upd_same) (da.up ex)) q.2
    by_cases e' : b = p
    · subst e'; rw [upd_same] at e; cases e; exact upd_same
    · rw [upd_ne e'] at e; rw [upd_ne e']; exact a1.sub b o e⟩
theorem wl_lst (h : WD K ts δ M fun ds M1 => ds.length ≤ sizeLine ∧ RL ds M1) : WL K (tLst ts) δ M RL := fun σ H Hd ls Q a k =>
  h σ H Hd ls _ a fun vs ds M1 H1 Hd1 a1 s1 da q => ⟨by rw [da.length]; exact q.1, fun p hp => by
    refine k p vs ds M1 (upd H1 p (.lst vs)) Hd1 (a1.up (step_new hp) fun b o e => ?_) (s1.trans (step_new hp).all) ?_ ?_ (not_ls a1 hp) upd_same da q.2
    · have := a1.sub b o e
      rw [upd_ne (ne_of_none this hp)]; exact this
    · cases e : H p with
      | none => rfl
      | some o => exact absurd hp (s1.there p (by rw [e]; simp))
    · cases e : Hd1 p with
      | none => rfl
      | some o => rw [a1.sub p o e] at hp; cases hp⟩
theorem we_lst (h : WD K ts δ M fun ds M1 => ds.length ≤ sizeLine ∧ R (.list ds) M1) : WE K (tLst ts) δ M R := we_wl (wl_lst h)
theorem we_cb (h : WD K ts δ M fun ds M1 => CD K rc ds fun d => R d M1) : WE K (tCB rc ts) δ M R := fun σ H Hd ls Q a k =>
  h σ H Hd ls _ a fun vs ds M1 H1 Hd1 a1 s1 da q => q H1 Hd1 vs Q a1.sub da fun z d H2 Hd2 s2 x2 dz q2 => k z d M1 H2 Hd2 (a1.up s2 x2) (s1.trans s2.all) dz q2
theorem wl_cb (h : WD K ts δ M fun ds M1 => CL K rc ds fun es => RL es M1) : WL K (tCB rc ts) δ M RL := fun σ H Hd ls Q a k =>
  h σ H Hd ls _ a fun vs ds M1 H1 Hd1 a1 s1 da q => q H1 Hd1 vs Q a1.sub da fun p xs es hp de q2 => by
    refine k p xs es M1 (upd H1 p (.lst xs)) Hd1 (a1.up (step_new hp) fun b o e => ?_) (s1.trans (step_new hp).all) ?_ ?_ (not_ls a1 hp) upd_same de q2
    · have := a1.sub b o e
      rw [upd_ne (ne_of_none this hp)]; exact this
    · cases e : H p with
      | none => rfl
      | some o => exact absurd hp (s1.there p (by rw [e]; simp))
    · cases e : Hd1 p with
      | none => rfl
      | some o => rw [a1.sub p o e] at hp; cases hp

/-! ### tests -/
theorem wt_B (h : WE K te δ M fun d M1 => ∃ b, d = .bool b ∧ RB b M1) : WT K (tB te) δ M RB := fun σ H Hd ls Q a k =>
  h σ H Hd ls _ a fun v d M1 H1 Hd1 a1 s1 dv h1 => by
    obtain ⟨b, rfl, q⟩ := h1
    cases dv
    exact ⟨b, rfl, k b M1 H1 Hd1 a1 s1 q⟩
theorem wt_test (h : WE K te δ M fun d M1 => ∃ b, d = .bool b ∧ RB b M1) : WT K (tTest te) δ M RB := wt_B h
theorem wt_and (h : WT K t δ M fun b M1 => if b = true then WT K u δ M1 RB else RB false M1) : WT K (tAnd t u) δ M RB := fun σ H Hd ls Q a k =>
  h σ H Hd ls _ a fun b M1 H1 Hd1 a1 s1 h1 => by
    cases b with
    | true => exact h1 σ H1 Hd1 ls Q a1 fun c M2 H2 Hd2 a2 s2 q => k c M2 H2 Hd2 a2 (s1.trans s2) q
    | false => exact k false M1 H1 Hd1 a1 s1 h1
theorem wt_or (h : WT K t δ M fun b M1 => if b = true then RB true M1 else WT K u δ M1 RB) : WT K (tOr t u) δ M RB := fun σ H Hd ls Q a k =>
  h σ H Hd ls _ a fun b M1 H1 Hd1 a1 s1 h1 => by
    cases b with
    | false => exact h1 σ H1 Hd1 ls Q a1 fun c M2 H2 Hd2 a2 s2 q => k c M2 H2 Hd2 a2 (s1.trans s2) q
    | true => exact k true M1 H1 Hd1 a1 s1 h1
theorem wt_not (h : WT K t δ M fun b M1 => RB (!b) M1) : WT K (tNot t) δ M RB := fun σ H Hd ls Q a k =>
  h σ H Hd ls _ a fun b M1 H1 Hd1 a1 s1 q => k (!b) M1 H1 Hd1 a1 s1 q
theorem we_if (h : WT K t δ M fun b M1 => if b = true then WE K ta δ M1 R else WE K tb δ M1 R) : WE K (tIf t ta tb) δ M R := fun σ H Hd ls Q a k =>
  h σ H Hd ls _ a fun b M1 H1 Hd1 a1 s1 h1 => by
    cases b with
    | true => exact h1 σ H1 Hd1 ls Q a1 fun v d M2 H2 Hd2 a2 s2 dv q => k v d M2 H2 Hd2 a2 (s1.trans s2) dv q
    | false => exact h1 σ H1 Hd1 ls Q a1 fun v d M2 H2 Hd2 a2 s2 dv q => k v d M2 H2 Hd2 a2 (s1.trans s2) dv q
theorem we_andV (h : WE K ta δ M fun x M1 => ∃ c, x = .bool c ∧ if c = true then WE K tb δ M1 R else R (.bool false) M1) : WE K (tAndV ta tb) δ M R := fun σ H Hd ls Q a k =>
  h σ H Hd ls _ a fun v x M1 H1 Hd1 a1 s1 dv h1 => by
    obtain ⟨c, rfl, h1⟩ := h1
    cases dv
    refine ⟨c, rfl, ?_⟩
    cases c with
    | true => exact h1 σ H1 Hd1 ls Q a1 fun v d M2 H2 Hd2 a2 s2 dv q => k v d M2 H2 Hd2 a2 (s1.trans s2) dv q
    | false => exact k _ _ M1 H1 Hd1 a1 s1 (.bl false) h1
theorem we_orV (h : WE K ta δ M fun x M1 => ∃ c, x = .bool c ∧ if c = true then R (.bool true) M1 else WE K tb δ M1 R) : WE K (tOrV ta tb) δ M R := fun σ H Hd ls Q a k =>
  h σ H Hd ls _ a fun v x M1 H1 Hd1 a1 s1 dv h1 => by
    obtain ⟨c, rfl, h1⟩ := h1
    cases dv
    refine ⟨c, rfl, ?_⟩
    cases c with
    | false => exact h1 σ H1 Hd1 ls Q a1 fun v d M2 H2 Hd2 a2 s2 dv q => k v d M2 H2 Hd2 a2 (s1.trans s2) dv q
    | true => exact k _ _ M1 H1 Hd1 a1 s1 (.bl true) h1
theorem we_notV (h : WE K ta δ M fun x M1 => ∃ c, x = .bool c ∧ R (.bool (!c)) M1) : WE K (tNotV ta) δ M R := fun σ H Hd ls Q a k =>
  h σ H Hd ls _ a fun v x M1 H1 Hd1 a1 s1 dv h1 => by
    obtain ⟨c, rfl, q⟩ := h1
    cases dv
    exact ⟨c, rfl, k _ _ M1 H1 Hd1 a1 s1 (.bl _) q⟩
/-- a value's truth -/
def truD : D → Bool
  | .none => false
  | .bool b => b
  | .int i => i != 0
  | .str x => (x.length : Int) != 0
  | .list xs => !xs.isEmpty
  | .tuple xs => !xs.isEmpty
  | .dict xs => !xs.isEmpty
theorem DpAll.empty {H : Hp} {vs : List V} {ds : List D} (h : DpAll K H vs ds) : vs.isEmpty = ds.isEmpty := by
  cases vs with
  | nil => cases h; rfl
  | cons v vs => cases h; rfl
theorem wt_tru (h : WE K te δ M fun d M1 => (∀ x, d = .str x → x.length ≤ sizeLine) ∧ (∀ ks, d ≠ .dict ks) ∧ RB (truD d) M1) : WT K (fun σ H Q => te σ H fun x H' => ∃ k, TruV K x H' k ∧ Q k H') δ M RB := fun σ H Hd ls Q a k =>
  h σ H Hd ls _ a fun v d M1 H1 Hd1 a1 s1 dv h1 => by
    obtain ⟨hs, nd, q⟩ := h1
    refine ⟨truD d, ?_, k _ M1 H1 Hd1 a1 s1 q⟩
    cases dv with
    | non => rfl
    | bl b => rfl
    | int i => rfl
    | str x => exact ⟨hs x rfl, rfl⟩
    | lst hq ha => exact .inl ⟨_, ex_l a1.sub hq, by rw [DpAll.empty ha]; rfl⟩
    | tup hq ha => exact .inr (.inl ⟨_, ex_t a1.sub hq, by rw [DpAll.empty ha]; rfl⟩)
    | dic h0 _ _ => exact absurd rfl (nd _)
end
end PW

set_option Elab.async false
set_option linter.all false
set_option maxRecDepth 100000
set_option maxHeartbeats 2000000
namespace PW
open PySem L2 Evl

/-! ### slots -/
section
variable {K : Fg} {δ : Dl} {M M' : Ms} {σ : L2.St} {H Hd H' Hd' : Hp} {ls : List Addr} {e : Ent}
theorem Sta.put (a : Sta K δ M σ H Hd ls) {i : Nat} {v : V} {d : D} (dv : Dp K Hd v d) : Sta K (δ.set i (some (.dat d))) M (σ.set i (some v)) H Hd ls := by
  refine ⟨a.sub, a.mlen, a.nd, a.obj, by simp [a.dlen], fun j x h => ?_, fun j k h => ?_⟩
  · by_cases e : i = j
    · subst e
      rw [List.getElem?_set] at h ⊢
      simp only [if_true] at h ⊢
      split at h
      · rename_i hl
        cases h
        rw [if_pos (by rw [a.dlen]; exact hl)]
        exact ⟨v, rfl, dv⟩
      · cases h
    · rw [List.getElem?_set_ne e] at h ⊢
      exact a.dat j x h
  · by_cases e : i = j
    · subst e
      rw [List.getElem?_set] at h
      simp only [if_true] at h
      split at h
      · cases h
      · cases h
    · rw [List.getElem?_set_ne e] at h ⊢
      exact a.own j k h
theorem Sta.forget (a : Sta K δ M σ H Hd ls) (σ' : L2.St) (δ' : Dl) (hl : σ'.length = δ'.length) (h : ∀ (i : Nat) c, δ'[i]? = some (some c) → δ[i]? = some (some c) ∧ σ'[i]? = σ[i]?) : Sta K δ' M σ' H Hd ls :=
  ⟨a.sub, a.mlen, a.nd, a.obj, hl, fun i d hd => by
    obtain ⟨h1, h2⟩ := h i _ hd
    obtain ⟨v, hv, dv⟩ := a.dat i d h1
    exact ⟨v, h2.trans hv, dv⟩, fun i k hd => by
    obtain ⟨h1, h2⟩ := h i _ hd
    obtain ⟨l, hl, hv⟩ := a.own i k h1
    exact ⟨l, hl, h2.trans hv⟩⟩
/-- an owned object is changed -/
theorem Sta.write (a : Sta K δ M σ H Hd ls) {k : Nat} {l : Addr} {o : HO} {m : MO} (hl : ls[k]? = some l) (n : Hd l = none) (hm : MAt K Hd (upd H l o) l m) : Sta K δ (M.set k m) σ (upd H l o) Hd ls := by
  refine ⟨fun b u hb => ?_, by simp [a.mlen], a.nd, fun j x y h1 h2 => ?_, a.dlen, a.dat, a.own⟩
  · rw [upd_ne (ne_of_none hb n)]; exact a.sub b u hb
  · by_cases e : k = j
    · subst e
      rw [hl] at h1; cases h1
      have hk : k < M.length := by rw [← a.mlen]; exact (List.getElem?_eq_some_iff.mp hl).1
      rw [List.getElem?_set_self hk] at h2
      cases h2
      exact hm
    · rw [List.getElem?_set_ne e] at h2
      have hx : x ≠ l := by
        rintro rfl
        obtain ⟨p1, q1⟩ := List.getElem?_eq_some_iff.mp hl
        obtain ⟨p2, q2⟩ := List.getElem?_eq_some_iff.mp h1
        exact e ((List.getElem_inj a.nd).mp (q1.trans q2.symm))
      have := a.obj j x y h1 h2
      cases y with
      | lst ds => obtain ⟨z, xs, hx', ha⟩ := this; exact ⟨z, xs, by rw [upd_ne hx]; exact hx', ha⟩
      | dic ds => obtain ⟨z, xs, hx', hk, ha⟩ := this; exact ⟨z, xs, by rw [upd_ne hx]; exact hx', hk, ha⟩
      | gone => exact this
theorem step_write {l : Addr} {o : HO} {k : Nat} (hl : ls[k]? = some l) (hn : H l ≠ none) : Step H Hd ls (upd H l o) Hd :=
  ⟨Ex.refl _, fun a u h n => by
    have : a ≠ l := fun z => n (z ▸ List.mem_of_getElem? hl)
    rw [upd_ne this]; exact h, fun _ _ n => n, fun a h => by
    by_cases q : a = l
    · subst q; rw [upd_same]; simp
    · rw [upd_ne q]; exact h⟩
/-- a fresh list becomes an owned one -/
theorem Sta.adopt (a : Sta K δ M σ H Hd ls) {p : Addr} {xs : List V} {ds : List D} {i : Nat} (hp : H p = some (.lst xs)) (n : Hd p = none) (nl : p ∉ ls) (da : DpAll K Hd xs ds) :
    Sta K (δ.set i (some (.own M.length))) (M ++ [.lst ds]) (σ.set i (some (.ref p))) H Hd (ls ++ [p]) := by
  refine ⟨a.sub, by simp [a.mlen], by rw [List.nodup_append]; exact ⟨a.nd, by simp, fun x hx y hy => by simp at hy; rw [hy]; exact fun z => nl (z ▸ hx)⟩, fun k l m h1 h2 => ?_, by simp [a.dlen], fun j x h => ?_, fun j k h => ?_⟩
  · by_cases hk : k < ls.length
    · rw [List.getElem?_append_left hk] at h1
      rw [List.getElem?_append_left (by rw [← a.mlen]; exact hk)] at h2
      exact a.obj k l m h1 h2
    · have hk' : k = ls.length := by
        have := (List.getElem?_eq_some_iff.mp h1).1
        simp at this; omega
      subst hk'
      have e1 : (ls ++ [p])[ls.length]? = some p := by simp
      have e2 : (M ++ [MO.lst ds])[ls.length]? = some (.lst ds) := by rw [a.mlen]; simp
      rw [e1] at h1; rw [e2] at h2
      cases h1; cases h2
      exact ⟨n, xs, hp, da⟩
  · by_cases e : i = j
    · subst e
      rw [List.getElem?_set] at h
      simp only [if_true] at h
      split at h
      · cases h
      · cases h
    · rw [List.getElem?_set_ne e] at h ⊢
      exact a.dat j x h
  · by_cases e : i = j
    · subst e
      rw [List.getElem?_set] at h ⊢
      simp only [if_true] at h ⊢
      split at h
      · rename_i hl
        cases h
        rw [if_pos (by rw [a.dlen]; exact hl)]
        exact ⟨p, by rw [← a.mlen]; simp, rfl⟩
      · cases h
    · rw [List.getElem?_set_ne e] at h ⊢
      obtain ⟨l, h1, h2⟩ := a.own j k h
      exact ⟨l, by rw [List.getElem?_append_left (List.getElem?_eq_some_iff.mp h1).1]; exact h1, h2⟩
end

/-! ### targets -/
def WG (K : Fg) (g : TG) (d : D) (δ : Dl) (M : Ms) (R : Dl → Ms → Prop) : Prop :=
  ∀ σ H Hd ls v Q, Sta K δ M σ H Hd ls → Dp K Hd v d → (∀ δ' M' σ' H' Hd', Sta K δ' M' σ' H' Hd' ls → Step H Hd ls H' Hd' → R δ' M' → Q σ' H') → g v σ H Q
def WGs (K : Fg) (g : TGs) (ds : List D) (δ : Dl) (M : Ms) (R : Dl → Ms → Prop) : Prop :=
  ∀ σ H Hd ls vs Q, Sta K δ M σ H Hd ls → DpAll K Hd vs ds → (∀ δ' M' σ' H' Hd', Sta K δ' M' σ' H' Hd' ls → Step H Hd ls H' Hd' → R δ' M' → Q σ' H') → g vs σ H Q
section
variable {K : Fg} {δ : Dl} {M M' : Ms} {R : Dl → Ms → Prop} {te ti ta : TE} {g : TG} {gs : TGs} {d : D} {ds : List D}
theorem wg_name {i : Nat} (q : R (δ.set i (some (.dat d))) M) : WG K (gName i) d δ M R := fun σ H Hd ls v Q a dv k => k _ M _ H Hd (a.put dv) Step.refl q
theorem wgs_nil (q : R δ M) : WGs K gNil [] δ M R := fun σ H Hd ls vs Q a dv k => by
  cases dv
  exact ⟨rfl, k δ M σ H Hd a Step.refl q⟩
theorem wgs_cons (h : WG K g d δ M fun δ1 M1 => WGs K gs ds δ1 M1 R) : WGs K (gCons g gs) (d :: ds) δ M R := fun σ H Hd ls vs Q a dv k => by
  cases dv with
  | cons d1 d2 => exact ⟨_, _, rfl, h σ H Hd ls _ _ a d1 fun δ1 M1 σ1 H1 Hd1 a1 s1 h1 => h1 σ1 H1 Hd1 ls _ Q a1 (d2.up s1.ext) fun δ2 M2 σ2 H2 Hd2 a2 s2 q => k δ2 M2 σ2 H2 Hd2 a2 (s1.trans s2) q⟩
theorem wg_tup {n : Nat} (hn : ds.length = n) (h : WGs K gs ds δ M R) : WG K (gTup K n gs) (.tuple ds) δ M R := fun σ H Hd ls v Q a dv k => by
  cases dv with
  | tup hs ha => exact ⟨_, _, rfl, ex_t a.sub hs, by rw [ha.length]; exact hn, h σ H Hd ls _ Q a ha k⟩
/-- own[i] = d -/
theorem wg_sub {i k : Nat} (ho : δ[i]? = some (some (.own k))) (h : WE K ti δ M fun j M1 => ∃ z n es, j = .int z ∧ M1[k]? = some (.lst es) ∧ ixN es.length z = some n ∧ R δ (M1.set k (.lst (es.set n d)))) : WG K (gSub (tVar i) ti rSetL) d δ M R := fun σ H Hd ls v Q a dv kk => by
  obtain ⟨l, hl, hv⟩ := a.own i k ho
  refine ⟨_, hv, h σ H Hd ls _ a fun w j M1 H1 Hd1 a1 s1 dw h1 => ?_⟩
  obtain ⟨z, n, es, rfl, hm, hx, q⟩ := h1
  cases dw
  obtain ⟨n0, xs, hxs, da⟩ := a1.obj k l _ hl hm
  refine ⟨l, xs, z, n, rfl, rfl, hxs, by rw [da.length]; exact hx, ?_⟩
  refine kk δ (M1.set k (.lst (es.set n d))) σ (upd H1 l (.lst (xs.set n v))) Hd1 (a1.write hl n0 ⟨n0, _, upd_same, da.set n (dv.up s1.ext)⟩) (s1.trans (step_write hl (by rw [hxs]; simp))) q
end

/-! ### statements -/
section
variable {K : Fg} {n : Ent → Prop} {δ : Dl} {M M' : Ms} {P : Po} {te ti ta : TE} {g : TG} {t u w : TS} {tc : TT} {wi : TI}
/-- bodies with n owned parameters -/
abbrev Own (n : Nat) : Ent → Prop := fun e => e.ls.length = n
instance : Coe Nat (Ent → Prop) := ⟨Own⟩
def WB (K : Fg) (n : Ent → Prop) (t : TS) (δ : Dl) (M : Ms) (P : Po) : Prop :=
  ∀ (e : Ent) (σ : L2.St) (H Hd : Hp) (ls : List Addr) (W : Ends), n e → Run K e δ M σ H Hd ls →
    (∀ δ' M' σ' H' Hd' ls', Run K e δ' M' σ' H' Hd' ls' → Ex Hd Hd' → ls <+: ls' → P.nx δ' M' → W.nx σ' H') →
    (∀ v d δ' M' σ' H' Hd' ls', Run K e δ' M' σ' H' Hd' ls' → Ex Hd Hd' → ls <+: ls' → Dp K Hd' v d → P.rt d M' → W.rt v H') →
    (∀ δ' M' σ' H' Hd' ls', Run K e δ' M' σ' H' Hd' ls' → Ex Hd Hd' → ls <+: ls' → P.bk δ' M' → W.bk σ' H') →
    (∀ δ' M' σ' H' Hd' ls', Run K e δ' M' σ' H' Hd' ls' → Ex Hd Hd' → ls <+: ls' → P.ct δ' M' → W.ct σ' H') → t W σ H
theorem wb_next (q : P.nx δ M) : WB K n tNext δ M P := fun e σ H Hd ls W hn r k1 k2 k3 k4 => k1 δ M σ H Hd ls r (Ex.refl _) (List.prefix_refl _) q
theorem wb_break (q : P.bk δ M) : WB K n tBreak δ M P := fun e σ H Hd ls W hn r k1 k2 k3 k4 => k3 δ M σ H Hd ls r (Ex.refl _) (List.prefix_refl _) q
theorem wb_cont (q : P.ct δ M) : WB K n tCont δ M P := fun e σ H Hd ls W hn r k1 k2 k3 k4 => k4 δ M σ H Hd ls r (Ex.refl _) (List.prefix_refl _) q
theorem wb_seq (h : WB K n t δ M { P with nx := fun δ' M' => WB K n u δ' M' P }) : WB K n (tSeq t u) δ M P := fun e σ H Hd ls W hn r k1 k2 k3 k4 =>
  h e σ H Hd ls { W with nx := u W } hn r (fun δ' M' σ' H' Hd' ls' r' x' p' h' => h' e σ' H' Hd' ls' W hn r'
    (fun δ2 M2 σ2 H2 Hd2 ls2 r2 x2 p2 q2 => k1 δ2 M2 σ2 H2 Hd2 ls2 r2 (x'.trans x2) (p'.trans p2) q2)
    (fun v d δ2 M2 σ2 H2 Hd2 ls2 r2 x2 p2 q2 => k2 v d δ2 M2 σ2 H2 Hd2 ls2 r2 (x'.trans x2) (p'.trans p2) q2)
    (fun δ2 M2 σ2 H2 Hd2 ls2 r2 x2 p2 q2 => k3 δ2 M2 σ2 H2 Hd2 ls2 r2 (x'.trans x2) (p'.trans p2) q2)
    (fun δ2 M2 σ2 H2 Hd2 ls2 r2 x2 p2 q2 => k4 δ2 M2 σ2 H2 Hd2 ls2 r2 (x'.trans x2) (p'.trans p2) q2)) k2 k3 k4
theorem wb_asg (h : WE K te δ M fun d M1 => WG K g d δ M1 P.nx) : WB K n (tAsg te g) δ M P := fun e σ H Hd ls W hn r k1 k2 k3 k4 =>
  h σ H Hd ls _ r.sta fun v d M1 H1 Hd1 a1 s1 dv h1 => h1 σ H1 Hd1 ls v _ a1 dv fun δ2 M2 σ2 H2 Hd2 a2 s2 q => by
    have s12 := s1.trans s2
    have r2 : Run K e δ M2 σ H2 Hd2 ls → Run K e δ2 M2 σ2 H2 Hd2 ls := fun r => ⟨a2, r.step, r.pre, r.loc⟩
    refine k1 δ2 M2 σ2 H2 Hd2 ls ?_ s12.ext (List.prefix_refl _) q
    have r1 := r.go a1 s1
    have a2' : Sta K δ M2 σ H2 Hd2 ls → Run K e δ2 M2 σ2 H2 Hd2 ls := fun z => r2 (r.go z s12)
    -- the run's step does not hang on the slots
    have z : Step e.H e.Hd e.ls H2 Hd2 := by
      refine ⟨r1.step.ext.trans s2.ext, fun x o h n => ?_, fun x h n => s2.new x (r1.step.there x h) (r1.step.new x h n), fun x h => s2.there x (r1.step.there x h)⟩
      refine s2.old x o (r1.step.old x o h n) fun hm => ?_
      obtain ⟨k, hk, ek⟩ := List.getElem_of_mem hm
      by_cases hlt : k < e.ls.length
      · obtain ⟨tl, et⟩ := r.pre
        refine n ?_
        have : ls[k]? = e.ls[k]? := by rw [← et, List.getElem?_append_left hlt]
        rw [List.getElem?_eq_getElem hk, ek, List.getElem?_eq_getElem hlt] at this
        rw [Option.some.inj this]
        exact List.getElem_mem hlt
      · have := r.loc k x (by rw [List.getElem?_eq_getElem hk, ek]) (by omega)
        rw [h] at this; cases this
    exact ⟨a2, z, r.pre, r.loc⟩
theorem wb_asgO {i : Nat} (h : WL K te δ M fun ds M1 => P.nx (δ.set i (some (.own M1.length))) (M1 ++ [.lst ds])) : WB K n (tAsg te (gName i)) δ M P := fun e σ H Hd ls W hn r k1 k2 k3 k4 =>
  h σ H Hd ls _ r.sta fun p xs ds M1 H1 Hd1 a1 s1 h0 h2 h3 h4 h5 q => by
    have r1 := r.go a1 s1
    refine k1 _ _ _ H1 Hd1 (ls ++ [p]) ⟨a1.adopt h4 h2 h3 h5, r1.step, r.pre.trans (List.prefix_append _ _), fun k l hk hl => ?_⟩ s1.ext (List.prefix_append _ _) q
    by_cases hlt : k < ls.length
    · rw [List.getElem?_append_left hlt] at hk; exact r.loc k l hk hl
    · have hk' : k = ls.length := by
        have := (List.getElem?_eq_some_iff.mp hk).1
        simp at this; omega
      subst hk'
      simp at hk
      subst hk
      cases e0 : e.H p with
      | none => rfl
      | some o => exact absurd h0 (r.step.there p (by rw [e0]; simp))
theorem wb_ret (h : WE K te δ M P.rt) : WB K n (tRet te) δ M P := fun e σ H Hd ls W hn r k1 k2 k3 k4 =>
  h σ H Hd ls _ r.sta fun v d M1 H1 Hd1 a1 s1 dv q => k2 v d δ M1 σ H1 Hd1 ls (r.go a1 s1) s1.ext (List.prefix_refl _) dv q
theorem wb_retN (q : P.rt .none M) : WB K n tRetN δ M P := fun e σ H Hd ls W hn r k1 k2 k3 k4 => k2 _ _ δ M σ H Hd ls r (Ex.refl _) (List.prefix_refl _) .non q
theorem wb_drop (h : WE K te δ M fun _ M1 => P.nx δ M1) : WB K n (tDrop te) δ M P := fun e σ H Hd ls W hn r k1 k2 k3 k4 =>
  h σ H Hd ls _ r.sta fun v d M1 H1 Hd1 a1 s1 dv q => k1 δ M1 σ H1 Hd1 ls (r.go a1 s1) s1.ext (List.prefix_refl _) q
theorem wb_if (h : WT K tc δ M fun b M1 => if b = true then WB K n t δ M1 P else WB K n u δ M1 P) : WB K n (tIfS tc t u) δ M P := fun e σ H Hd ls W hn r k1 k2 k3 k4 =>
  h σ H Hd ls _ r.sta fun b M1 H1 Hd1 a1 s1 h1 => by
    cases b with
    | true => exact h1 e σ H1 Hd1 ls W hn (r.go a1 s1) (fun δ2 M2 σ2 H2 Hd2 ls2 r2 x2 => k1 δ2 M2 σ2 H2 Hd2 ls2 r2 (s1.ext.trans x2)) (fun v d δ2 M2 σ2 H2 Hd2 ls2 r2 x2 => k2 v d δ2 M2 σ2 H2 Hd2 ls2 r2 (s1.ext.trans x2)) (fun δ2 M2 σ2 H2 Hd2 ls2 r2 x2 => k3 δ2 M2 σ2 H2 Hd2 ls2 r2 (s1.ext.trans x2)) (fun δ2 M2 σ2 H2 Hd2 ls2 r2 x2 => k4 δ2 M2 σ2 H2 Hd2 ls2 r2 (s1.ext.trans x2))
    | false => exact h1 e σ H1 Hd1 ls W hn (r.go a1 s1) (fun δ2 M2 σ2 H2 Hd2 ls2 r2 x2 => k1 δ2 M2 σ2 H2 Hd2 ls2 r2 (s1.ext.trans x2)) (fun v d δ2 M2 σ2 H2 Hd2 ls2 r2 x2 => k2 v d δ2 M2 σ2 H2 Hd2 ls2 r2 (s1.ext.trans x2)) (fun δ2 M2 σ2 H2 Hd2 ls2 r2 x2 => k3 δ2 M2 σ2 H2 Hd2 ls2 r2 (s1.ext.trans x2)) (fun δ2 M2 σ2 H2 Hd2 ls2 r2 x2 => k4 δ2 M2 σ2 H2 Hd2 ls2 r2 (s1.ext.trans x2))
/-- weaker ends -/
theorem wb_mono {P' : Po} (h : WB K n t δ M P) (h1 : ∀ δ M, P.nx δ M → P'.nx δ M) (h2 : ∀ d M, P.rt d M → P'.rt d M) (h3 : ∀ δ M, P.bk δ M → P'.bk δ M) (h4 : ∀ δ M, P.ct δ M → P'.ct δ M) : WB K n t δ M P' := fun e σ H Hd ls W hn r k1 k2 k3 k4 =>
  h e σ H Hd ls W hn r (fun δ2 M2 σ2 H2 Hd2 ls2 r2 x2 p2 q => k1 δ2 M2 σ2 H2 Hd2 ls2 r2 x2 p2 (h1 _ _ q)) (fun v d δ2 M2 σ2 H2 Hd2 ls2 r2 x2 p2 dv q => k2 v d δ2 M2 σ2 H2 Hd2 ls2 r2 x2 p2 dv (h2 _ _ q))
    (fun δ2 M2 σ2 H2 Hd2 ls2 r2 x2 p2 q => k3 δ2 M2 σ2 H2 Hd2 ls2 r2 x2 p2 (h3 _ _ q)) (fun δ2 M2 σ2 H2 Hd2 ls2 r2 x2 p2 q => k4 δ2 M2 σ2 H2 Hd2 ls2 r2 x2 p2 (h4 _ _ q))
/-- found.append(e) -/
theorem wb_app {i k : Nat} {ds0 : List D} (ho : δ[i]? = some (some (.own k))) (hm0 : M[k]? = some (.lst ds0)) (h : WE K te δ M fun d M1 => ∃ ds, M1[k]? = some (.lst ds) ∧ ds.length < sizeLine ∧ P.nx δ (M1.set k (.lst (ds ++ [d])))) : WB K n (tDrop (tBM K "list" rAppend (tVar i) (tCons te tNil))) δ M P := fun e σ H Hd ls W hn r k1 k2 k3 k4 => by
  obtain ⟨l, hl, hv⟩ := r.sta.own i k ho
  refine ⟨_, hv, ?_, ?_⟩
  · obtain ⟨_, xs, hx, _⟩ := r.sta.obj k l _ hl hm0
    exact .inl ⟨rfl, xs, SqL.of hx⟩
  · refine h σ H Hd ls _ r.sta fun v d M1 H1 Hd1 a1 s1 dv h1 => ?_
    obtain ⟨ds, hm, hz, q⟩ := h1
    obtain ⟨n0, xs, hxs, da⟩ := a1.obj k l _ hl hm
    refine ⟨l, xs, v, rfl, rfl, hxs, by rw [da.length]; exact hz, ?_⟩
    have a2 := a1.write (o := .lst (xs ++ [v])) hl n0 (m := .lst (ds ++ [d])) ⟨n0, _, upd_same, da.app (.one dv)⟩
    have s2 := s1.trans (step_write (o := .lst (xs ++ [v])) (Hd := Hd1) hl (show H1 l ≠ none by rw [hxs]; simp))
    exact k1 δ _ σ _ Hd1 ls (r.go a2 s2) s2.ext (List.prefix_refl _) q
/-- an owned list that nothing changes any more is data -/
theorem wb_frz {i k : Nat} {ds : List D} (ho : δ[i]? = some (some (.own k))) (hm : M[k]? = some (.lst ds)) (hk : ∀ e, n e → e.ls.length ≤ k) (h : WB K n t (δ.set i (some (.dat (.list ds)))) (M.set k .gone) P) : WB K n t δ M P := fun e σ H Hd ls W hn r k1 k2 k3 k4 => by
  obtain ⟨l, hl, hv⟩ := r.sta.own i k ho
  obtain ⟨n0, xs, hxs, da⟩ := r.sta.obj k l _ hl hm
  have ex : Ex Hd (upd Hd l (.lst xs)) := Ex.new n0
  have eloc := r.loc k l hl (hk e hn)
  have ist : ∀ (j : Nat) x y, ls[j]? = some x → M[j]? = some y → j ≠ k → x ≠ l := fun j x y h1 h2 hj => by
    rintro rfl
    obtain ⟨p1, q1⟩ := List.getElem?_eq_some_iff.mp hl
    obtain ⟨p2, q2⟩ := List.getElem?_eq_some_iff.mp h1
    exact hj ((List.getElem_inj r.sta.nd).mp (q2.trans q1.symm))
  have a2 : Sta K (δ.set i (some (.dat (.list ds)))) (M.set k .gone) σ H (upd Hd l (.lst xs)) ls := by
    refine ⟨fun b o e => ?_, by simp [r.sta.mlen], r.sta.nd, fun j x y h1 h2 => ?_, by simp [r.sta.dlen], fun j d h => ?_, fun j m h => ?_⟩
    · by_cases e' : b = l
      · subst e'; rw [upd_same] at e; cases e; exact hxs
      · rw [upd_ne e'] at e; exact r.sta.sub b o e
    · by_cases hj : k = j
      · subst hj
        rw [hl] at h1; cases h1
        rw [List.getElem?_set_self (List.getElem?_eq_some_iff.mp hm).1] at h2
        cases h2
        show upd Hd l _ l ≠ none
        rw [upd_same]; simp
      · rw [List.getElem?_set_ne hj] at h2
        have hx := ist j x y h1 h2 (Ne.symm hj)
        have := r.sta.obj j x y h1 h2
        cases y with
        | lst es => obtain ⟨z, ys, hy, hs⟩ := this; exact ⟨by rw [upd_ne hx]; exact z, ys, hy, hs.up ex⟩
        | dic es => obtain ⟨z, ys, hy, hk, hs⟩ := this; exact ⟨by rw [upd_ne hx]; exact z, ys, hy, hk, hs.up ex⟩
        | gone =>
          show upd Hd l _ x ≠ none
          rw [upd_ne hx]; exact this
    · by_cases e' : i = j
      · subst e'
        rw [List.getElem?_set] at h
        simp only [if_true] at h
        split at h
        · cases h
          exact ⟨_, hv, .lst (SqL.of upd_same) (da.up ex)⟩
        · cases h
      · rw [List.getElem?_set_ne e'] at h
        obtain ⟨v, h1, h2⟩ := r.sta.dat j d h
        exact ⟨v, h1, h2.up ex⟩
    · by_cases e' : i = j
      · subst e'
        rw [List.getElem?_set] at h
        simp only [if_true] at h
        split at h <;> cases h
      · rw [List.getElem?_set_ne e'] at h
        exact r.sta.own j m h
  refine h e σ H (upd Hd l (.lst xs)) ls W hn ⟨a2, ⟨r.step.ext.trans ex, r.step.old, fun b h1 h2 => ?_, r.step.there⟩, r.pre, r.loc⟩ (fun δ2 M2 σ2 H2 Hd2 ls2 r2 x2 => k1 δ2 M2 σ2 H2 Hd2 ls2 r2 (ex.trans x2)) (fun v d δ2 M2 σ2 H2 Hd2 ls2 r2 x2 => k2 v d δ2 M2 σ2 H2 Hd2 ls2 r2 (ex.trans x2)) (fun δ2 M2 σ2 H2 Hd2 ls2 r2 x2 => k3 δ2 M2 σ2 H2 Hd2 ls2 r2 (ex.trans x2)) (fun δ2 M2 σ2 H2 Hd2 ls2 r2 x2 => k4 δ2 M2 σ2 H2 Hd2 ls2 r2 (ex.trans x2))
  have : b ≠ l := fun z => h1 (z ▸ eloc)
  rw [upd_ne this]; exact r.step.new b h1 h2
end
end PW

set_option Elab.async false
set_option linter.all false
set_option maxRecDepth 100000
set_option maxHeartbeats 2000000
namespace PW
open PySem L2 Evl PySem.Spec PyProof.Rows

/-! ### defs -/
/-- what a def does, by its arguments and what of them it owns: R is wanted of the answer and of the owned objects behind it -/
abbrev FS := List C → Ms → (D → Ms → Prop) → Prop
structure Arg (K : Fg) (H Hd : Hp) (ls : List Addr) (vs : List V) (cs : List C) (M : Ms) : Prop where
  sub : Ex Hd H
  mlen : ls.length = M.length
  nd : ls.Nodup
  obj : ∀ (k : Nat) l m, ls[k]? = some l → M[k]? = some m → MAt K Hd H l m
  vcs : VCs K Hd ls vs cs
def SpF (K : Fg) (S : FS) : Sp := fun vs H Q _ => ∃ Hd ls cs M R, Arg K H Hd ls vs cs M ∧ S cs M R ∧
  ∀ v d M' H' Hd', Ex Hd' H' → Step H Hd ls H' Hd' → M'.length = M.length → (∀ (k : Nat) l m, ls[k]? = some l → M'[k]? = some m → MAt K Hd' H' l m) → Dp K Hd' v d → R d M' → Q v H'
theorem VCs.length {K : Fg} {Hd : Hp} {ls : List Addr} {vs : List V} {cs : List C} (h : VCs K Hd ls vs cs) : vs.length = cs.length := by
  induction h with
  | nil => rfl
  | cons a b ih => simp [ih]
theorem VCs.get {K : Fg} {Hd : Hp} {ls : List Addr} {vs : List V} {cs : List C} (h : VCs K Hd ls vs cs) {i : Nat} {c : C} (hc : cs[i]? = some c) : ∃ v, vs[i]? = some v ∧ VC K Hd ls v c := by
  induction h generalizing i with
  | nil => simp at hc
  | cons a b ih =>
    cases i with
    | zero => simp at hc; subst hc; exact ⟨_, rfl, a⟩
    | succ i => exact ih (by simpa using hc)
/-- the slots at a body's start -/
def slots (N : List Str) (cs : List C) : Dl := cs.map some ++ List.replicate (N.length - cs.length) none
theorem start_eq (N : List Str) (vs : List V) : L2.start N vs = vs.map some ++ List.replicate (N.length - vs.length) none := rfl
theorem sta_start {K : Fg} {H Hd : Hp} {ls : List Addr} {vs : List V} {cs : List C} {M : Ms} (N : List Str) (a : Arg K H Hd ls vs cs M) : Sta K (slots N cs) M (L2.start N vs) H Hd ls := by
  have hl := a.vcs.length
  have key : ∀ (i : Nat) c, (slots N cs)[i]? = some (some c) → ∃ v, vs[i]? = some v ∧ VC K Hd ls v c ∧ (L2.start N vs)[i]? = some (some v) := fun i c h => by
    unfold slots at h
    by_cases hi : i < cs.length
    · rw [List.getElem?_append_left (by simpa using hi), List.getElem?_map] at h
      have hc : cs[i]? = some c := by
        cases e : cs[i]? with
        | none => rw [e] at h; cases h
        | some x => rw [e] at h; simp at h; rw [h]
      obtain ⟨v, hv, hc⟩ := a.vcs.get hc
      refine ⟨v, hv, hc, ?_⟩
      rw [start_eq, List.getElem?_append_left (by simp; omega), List.getElem?_map, hv]
      rfl
    · rw [List.getElem?_append_right (by simp; omega), List.getElem?_replicate] at h
      split at h <;> cases h
  refine ⟨a.sub, a.mlen, a.nd, a.obj, by rw [start_eq]; unfold slots; simp [hl], fun i d h => ?_, fun i k h => ?_⟩
  · obtain ⟨v, h1, h2, h3⟩ := key i _ h
    exact ⟨v, h3, h2⟩
  · obtain ⟨v, h1, ⟨l, h4, h5⟩, h3⟩ := key i _ h
    subst h5
    exact ⟨l, h4, h3⟩
section
variable {P : Program} {w : World} {K : PySem.W.Frag} {mg : Str → Option Value} {base : Heap}
/-- a def keeps its promise, by its body over data -/
theorem fok {x qual : Str} {st : Stmt} {f : Addr} {fd : FuncData} {N ps : List Str} {k : Nat} {S : FS} (F : Fun K x qual st f fd) (sc : FnScope N ps (defScope st)) (len : ∀ cs M R, S cs M R → cs.length = ps.length)
    (hbody : ∀ (cdv : Value) (A : Around) (outer : List Env) (s : Shared) (H : Hp) (E : XK), Room k (A.deeper (envOfC qual (defScope st) s.heap.objs.size f cdv)) →
      ∃ t, PSs (cxOf CX0 P w K mg base N qual (defScope st) f cdv A outer s H E).nox (defBody st) t ∧
        ∀ cs M R, S cs M R → WB K M.length t (slots N cs) M { nx := fun _ M' => R .none (M'.take M.length), rt := fun d M' => R d (M'.take M.length) }) : FnOk P w K mg base CX0 (k + 1) f fd ps (SpF K S) := by
  refine F.ok sc (fun vs H Q E h => ?_) (fun cdv A outer s H vs Q E hr h => ?_)
  · obtain ⟨Hd, ls, cs, M, R, a, hs, _⟩ := h
    rw [a.vcs.length]; exact len cs M R hs
  · obtain ⟨t, d, hb⟩ := hbody cdv A outer s H E hr
    refine ⟨t, d, ?_⟩
    obtain ⟨Hd, ls, cs, M, R, a, hs, hq⟩ := h
    have fin : ∀ v d δ' M' σ' H' Hd' ls', Run K ⟨H, Hd, ls⟩ δ' M' σ' H' Hd' ls' → Dp K Hd' v d → R d (M'.take M.length) → Q v H' := fun v d δ' M' σ' H' Hd' ls' r dv q => by
      have hle : M.length ≤ M'.length := by rw [← a.mlen, ← r.sta.mlen]; exact r.pre.length_le
      refine hq v d (M'.take M.length) H' Hd' r.sta.sub r.step (by rw [List.length_take]; omega) (fun k l m h1 h2 => ?_) dv q
      have hk : k < M.length := by
        rw [← a.mlen]; exact (List.getElem?_eq_some_iff.mp h1).1
      rw [List.getElem?_take_of_lt hk] at h2
      refine r.sta.obj k l m ?_ h2
      obtain ⟨tl, et⟩ := r.pre
      rw [← et, List.getElem?_append_left (by rw [a.mlen]; exact hk)]
      exact h1
    refine hb cs M R hs ⟨H, Hd, ls⟩ (L2.start N vs) H Hd ls _ a.mlen ⟨sta_start N a, Step.refl, List.prefix_refl _, fun k l h1 h2 => ?_⟩ (fun δ' M' σ' H' Hd' ls' r x p q => ?_) (fun v d δ' M' σ' H' Hd' ls' r x p dv q => ?_) (fun δ' M' σ' H' Hd' ls' r x p q => q) (fun δ' M' σ' H' Hd' ls' r x p q => q)
    · have := (List.getElem?_eq_some_iff.mp h1).1
      exact absurd h2 (by show ¬ ls.length ≤ k; omega)
    · exact fin .non .none δ' M' σ' H' Hd' ls' r .non q
    · exact fin v d δ' M' σ' H' Hd' ls' r dv q
end

/-! ### calls -/
section
variable {K : Fg} {δ : Dl} {M M' : Ms} {R : D → Ms → Prop} {te ta tb tc : TE} {ts tr : TA} {S : FS} {E : XK}
theorem vcs_dat {Hd : Hp} {vs : List V} {ds : List D} (h : DpAll K Hd vs ds) : VCs K Hd [] vs (ds.map .dat) := by
  induction vs generalizing ds with
  | nil => cases h; exact .nil
  | cons v vs ih => cases h with | cons h1 h2 => exact .cons h1 (ih h2)
theorem vcs_dat' {Hd : Hp} {l : List Addr} {vs : List V} {ds : List D} (h : DpAll K Hd vs ds) : VCs K Hd l vs (ds.map .dat) := by
  induction vs generalizing ds with
  | nil => cases h; exact .nil
  | cons v vs ih => cases h with | cons h1 h2 => exact .cons h1 (ih h2)
/-- f(data) -/
theorem we_call (h : WD K ts δ M fun ds M1 => S (ds.map .dat) [] fun d _ => R d M1) : WE K (tCall (SpF K S) [] E ts) δ M R := fun σ H Hd ls Q a k =>
  h σ H Hd ls _ a fun vs ds M1 H1 Hd1 a1 s1 da h1 => by
    rw [List.append_nil]
    refine ⟨Hd1, [], ds.map .dat, [], _, ⟨a1.sub, rfl, List.nodup_nil, fun k l m h => by simp at h, vcs_dat da⟩, h1, fun v d M2 H2 Hd2 x2 s2 _ _ dv q => ?_⟩
    exact k v d M1 H2 Hd2 (a1.up s2 x2) (s1.trans s2.all) dv q
/-- f(own, data) -/
theorem we_callO {i k : Nat} (ho : δ[i]? = some (some (.own k))) (h : WD K tr δ M fun ds M1 => ∃ m, M1[k]? = some m ∧ S (.own 0 :: ds.map .dat) [m] fun d M2 => ∀ m', M2 = [m'] → R d (M1.set k m')) : WE K (tCall (SpF K S) [] E (tCons (tVar i) tr)) δ M R := fun σ H Hd ls Q a kk => by
  obtain ⟨l, hl, hv⟩ := a.own i k ho
  refine ⟨_, hv, h σ H Hd ls _ a fun vs ds M1 H1 Hd1 a1 s1 da h1 => ?_⟩
  obtain ⟨m, hm, hs⟩ := h1
  rw [List.append_nil]
  have ml : M1.length = ls.length := a1.mlen.symm
  refine ⟨Hd1, [l], .own 0 :: ds.map .dat, [m], _, ⟨a1.sub, rfl, by simp, fun j x y h1 h2 => ?_, .cons ⟨l, rfl, rfl⟩ (vcs_dat' da)⟩, hs, fun v d M2 H2 Hd2 x2 s2 e2 o2 dv q => ?_⟩
  · cases j with
    | zero => simp at h1 h2; subst h1; subst h2; exact a1.obj k l _ hl hm
    | succ j => simp at h1
  · obtain ⟨m', rfl⟩ : ∃ m', M2 = [m'] := by
      cases M2 with
      | nil => cases e2
      | cons x t =>
        cases t with
        | nil => exact ⟨x, rfl⟩
        | cons _ _ => cases e2
    have s2' : Step H1 Hd1 ls H2 Hd2 := s2.sub fun x hx _ => by simp at hx; rw [hx]; exact List.mem_of_getElem? hl
    refine kk v d (M1.set k m') H2 Hd2 ⟨x2, by simp [ml], a1.nd, fun j x y h1 h2 => ?_, a1.dlen, fun j z h => ?_, a1.own⟩ (s1.trans s2') dv (q m' rfl)
    · by_cases e : k = j
      · subst e
        rw [hl] at h1; cases h1
        rw [List.getElem?_set_self (by rw [ml]; exact (List.getElem?_eq_some_iff.mp hl).1)] at h2
        cases h2
        exact o2 0 l m' rfl rfl
      · rw [List.getElem?_set_ne e] at h2
        have hx : x ∉ [l] := by
          simp
          rintro rfl
          obtain ⟨p1, q1⟩ := List.getElem?_eq_some_iff.mp hl
          obtain ⟨p2, q2⟩ := List.getElem?_eq_some_iff.mp h1
          exact e ((List.getElem_inj a1.nd).mp (q1.trans q2.symm))
        have := a1.obj j x y h1 h2
        cases y with
        | lst es => obtain ⟨z, ys, hy, hs⟩ := this; exact ⟨s2.new x (by rw [hy]; simp) z, ys, s2.old x _ hy hx, hs.up s2.ext⟩
        | dic es => obtain ⟨z, ys, hy, hk, hs⟩ := this; exact ⟨s2.new x (by rw [hy]; simp) z, ys, s2.old x _ hy hx, hk, hs.up s2.ext⟩
        | gone =>
          intro z
          cases e : Hd1 x with
          | none => exact this e
          | some o => rw [s2.ext x o e] at z; cases z
    · obtain ⟨u, h1, h2⟩ := a1.dat j z h
      exact ⟨u, h1, h2.up s2.ext⟩
end

/-! ### for, over data -/
section
variable {K : Fg} {n : Ent → Prop} {δ : Dl} {M M' : Ms} {P : Po} {te : TE} {ta : TA} {g : TG} {tb : TS} {tt : TT}
/-- the turns, one after another -/
def turns (K : Fg) (n : Ent → Prop) (g : TG) (tb : TS) : List D → Dl → Ms → Po → Prop
  | [], δ, M, P => P.nx δ M
  | d :: r, δ, M, P => WG K g d δ M fun δ1 M1 => WB K n tb δ1 M1 { nx := fun δ2 M2 => turns K n g tb r δ2 M2 P, rt := P.rt, bk := P.nx, ct := fun δ2 M2 => turns K n g tb r δ2 M2 P }
theorem turns_inv (I : Nat → Dl → Ms → Prop) {ds : List D} (h0 : I 0 δ M)
    (hs : ∀ (j : Nat) d δ M, ds[j]? = some d → I j δ M → WG K g d δ M fun δ1 M1 => WB K n tb δ1 M1 { nx := I (j + 1), rt := P.rt, bk := P.nx, ct := I (j + 1) })
    (hd : ∀ δ M, I ds.length δ M → P.nx δ M) : turns K n g tb ds δ M P := by
  suffices h : ∀ (es : List D) (j : Nat), j + es.length = ds.length → (∀ i d, es[i]? = some d → ds[j + i]? = some d) → ∀ δ M, I j δ M → turns K n g tb es δ M P from h ds 0 (by simp) (by intro i d h; simpa using h) δ M h0
  intro es
  induction es with
  | nil =>
    intro j hj _ δ M hI
    have : j = ds.length := by simpa using hj
    subst this
    exact hd δ M hI
  | cons d r ih =>
    intro j hj hi δ M hI
    have h1 := hs j d δ M (by simpa using hi 0 d rfl) hI
    have nxt : ∀ δ2 M2, I (j + 1) δ2 M2 → turns K n g tb r δ2 M2 P := fun δ2 M2 hI2 => ih (j + 1) (by simp at hj; omega) (fun i x hx => by
      have := hi (i + 1) x (by simpa using hx)
      rw [show j + 1 + i = j + (i + 1) by omega]; exact this) δ2 M2 hI2
    intro σ H Hd ls v Q a dv k
    exact h1 σ H Hd ls v Q a dv fun δ1 M1 σ1 H1 Hd1 a1 s1 q => k δ1 M1 σ1 H1 Hd1 a1 s1 (wb_mono q nxt (fun _ _ z => z) (fun _ _ z => z) nxt)
/-- the turns hold over any iterator that yields these data -/
theorem for_turns {D' : Type} {W : Ends} {σ : L2.St} {H Hd : Hp} {ls : List Addr} {e : Ent} {J : It} {ds : List D} (hn : n e) (r : Run K e δ M σ H Hd ls)
    (hgo : ∀ (i : Nat) H', i < ds.length → Ex Hd H' → J.go i H') (hstop : ∀ H', Ex Hd H' → J.stop ds.length H')
    (hyld : ∀ (i : Nat) H' x H2, i < ds.length → Ex Hd H' → J.yld i H' x H2 → H2 = H' ∧ ∃ d, ds[i]? = some d ∧ Dp K Hd x d)
    (h : turns K n g tb ds δ M P)
    (k1 : ∀ δ' M' σ' H' Hd' ls', Run K e δ' M' σ' H' Hd' ls' → Ex Hd Hd' → ls <+: ls' → P.nx δ' M' → W.nx σ' H')
    (k2 : ∀ v d δ' M' σ' H' Hd' ls', Run K e δ' M' σ' H' Hd' ls' → Ex Hd Hd' → ls <+: ls' → Dp K Hd' v d → P.rt d M' → W.rt v H') :
    ∃ W' : Nat → Nat → L2.St → Hp → Prop, (∃ m, W' 0 m σ H) ∧ ∀ i m σ H, W' i m σ H →
      (J.stop i H ∧ W.nx σ H) ∨ (J.go i H ∧ ∃ Nx : L2.St → Hp → Prop, (∀ σ' H', Nx σ' H' → ∃ m', m' < m ∧ W' (i + 1) m' σ' H') ∧ ∀ x H', J.yld i H x H' → g x σ H' fun σ2 H2 => tb { W with nx := Nx, ct := Nx, bk := W.nx } σ2 H2) := by
  refine ⟨fun i m σ' H' => m = ds.length - i ∧ i ≤ ds.length ∧ ∃ δ' M' Hd' ls', Run K e δ' M' σ' H' Hd' ls' ∧ Ex Hd Hd' ∧ ls <+: ls' ∧ turns K n g tb (ds.drop i) δ' M' P, ⟨ds.length, by simp, Nat.zero_le _, δ, M, Hd, ls, r, Ex.refl _, List.prefix_refl _, by simpa using h⟩, ?_⟩
  rintro i m σ1 H1 ⟨rfl, hi, δ1, M1, Hd1, ls1, r1, x1, p1, t1⟩
  have ex1 : Ex Hd H1 := x1.trans r1.sta.sub
  by_cases hlt : i < ds.length
  · refine .inr ⟨hgo i H1 hlt ex1, fun σ' H' => ∃ δ' M' Hd' ls', Run K e δ' M' σ' H' Hd' ls' ∧ Ex Hd Hd' ∧ ls <+: ls' ∧ turns K n g tb (ds.drop (i + 1)) δ' M' P, fun σ' H' q => ⟨ds.length - (i + 1), by omega, rfl, hlt, q⟩, fun x H2 y => ?_⟩
    obtain ⟨e2, d, hd, dx⟩ := hyld i H1 x H2 hlt ex1 y
    subst e2
    have e3 : ds.drop i = d :: ds.drop (i + 1) := by
      rw [List.drop_eq_getElem_cons hlt]
      rw [List.getElem?_eq_getElem hlt] at hd
      rw [Option.some.inj hd]
    rw [e3] at t1
    have t2 : WG K g d δ1 M1 fun δ1 M1 => WB K n tb δ1 M1 { nx := fun δ2 M2 => turns K n g tb (ds.drop (i + 1)) δ2 M2 P, rt := P.rt, bk := P.nx, ct := fun δ2 M2 => turns K n g tb (ds.drop (i + 1)) δ2 M2 P } := t1
    refine t2 σ1 H2 Hd1 ls1 x _ r1.sta (dx.up x1) fun δ2 M2 σ2 H2' Hd2 a2 s2 q2 => ?_
    have r2 : Run K e δ2 M2 σ2 H2' Hd2 ls1 := by
      refine ⟨a2, ⟨r1.step.ext.trans s2.ext, fun x o h n => ?_, fun x h n => s2.new x (r1.step.there x h) (r1.step.new x h n), fun x h => s2.there x (r1.step.there x h)⟩, r1.pre, r1.loc⟩
      refine s2.old x o (r1.step.old x o h n) fun hm => ?_
      obtain ⟨k, hk, ek⟩ := List.getElem_of_mem hm
      by_cases hlt : k < e.ls.length
      · obtain ⟨tl, et⟩ := r1.pre
        refine n ?_
        have : ls1[k]? = e.ls[k]? := by rw [← et, List.getElem?_append_left hlt]
        rw [List.getElem?_eq_getElem hk, ek, List.getElem?_eq_getElem hlt] at this
        rw [Option.some.inj this]
        exact List.getElem_mem hlt
      · have := r1.loc k x (by rw [List.getElem?_eq_getElem hk, ek]) (by omega)
        rw [h] at this; cases this
    refine q2 e σ2 H2' Hd2 ls1 _ hn r2 (fun δ3 M3 σ3 H3 Hd3 ls3 r3 x3 p3 q3 => ⟨δ3, M3, Hd3, ls3, r3, (x1.trans s2.ext).trans x3, p1.trans p3, q3⟩)
      (fun v d δ3 M3 σ3 H3 Hd3 ls3 r3 x3 p3 dv q3 => k2 v d δ3 M3 σ3 H3 Hd3 ls3 r3 ((x1.trans s2.ext).trans x3) (p1.trans p3) dv q3)
      (fun δ3 M3 σ3 H3 Hd3 ls3 r3 x3 p3 q3 => k1 δ3 M3 σ3 H3 Hd3 ls3 r3 ((x1.trans s2.ext).trans x3) (p1.trans p3) q3)
      (fun δ3 M3 σ3 H3 Hd3 ls3 r3 x3 p3 q3 => ⟨δ3, M3, Hd3, ls3, r3, (x1.trans s2.ext).trans x3, p1.trans p3, q3⟩)
  · have e2 : i = ds.length := by omega
    subst e2
    rw [List.drop_length] at t1
    exact .inl ⟨hstop H1 ex1, k1 δ1 M1 σ1 H1 Hd1 ls1 r1 x1 p1 t1⟩
theorem wb_forL (h : WE K te δ M fun d M1 => ∃ ds, d = .list ds ∧ turns K n g tb ds δ M1 P) : WB K n (tFor (iList K te) g tb) δ M P := fun e σ H Hd ls W hn r k1 k2 k3 k4 =>
  h σ H Hd ls _ r.sta fun v d M1 H1 Hd1 a1 s1 dv h1 => by
    obtain ⟨ds, rfl, ht⟩ := h1
    cases dv with
    | lst hq da =>
      rename_i a xs
      refine ⟨a, rfl, ⟨_, ex_l a1.sub hq⟩, ?_⟩
      refine for_turns (D' := D) hn (r.go a1 s1) (fun i H' hi x => ?_) (fun H' x => ⟨xs, ex_l x hq, Nat.le_of_eq da.length⟩) (fun i H' x H2 hi ex y => ?_) ht (fun δ' M' σ' H' Hd' ls' r' x' => k1 δ' M' σ' H' Hd' ls' r' (s1.ext.trans x')) (fun v d δ' M' σ' H' Hd' ls' r' x' => k2 v d δ' M' σ' H' Hd' ls' r' (s1.ext.trans x'))
      · exact ⟨xs, xs[i]'(by rw [da.length]; exact hi), ex_l x hq, by simp [da.length, hi]⟩
      · obtain ⟨e1, y⟩ := y
        obtain ⟨d, hd, dd⟩ := da.get (y xs (ex_l ex hq))
        exact ⟨e1, d, hd, dd⟩
theorem wb_forT (h : WE K te δ M fun d M1 => ∃ ds, d = .tuple ds ∧ turns K n g tb ds δ M1 P) : WB K n (tFor (iTup K te) g tb) δ M P := fun e σ H Hd ls W hn r k1 k2 k3 k4 =>
  h σ H Hd ls _ r.sta fun v d M1 H1 Hd1 a1 s1 dv h1 => by
    obtain ⟨ds, rfl, ht⟩ := h1
    cases dv with
    | tup hq da =>
      rename_i a xs
      refine ⟨a, rfl, ⟨_, ex_t a1.sub hq⟩, ?_⟩
      refine for_turns (D' := D) hn (r.go a1 s1) (fun i H' hi x => ?_) (fun H' x => ⟨xs, ex_t x hq, Nat.le_of_eq da.length⟩) (fun i H' x H2 hi ex y => ?_) ht (fun δ' M' σ' H' Hd' ls' r' x' => k1 δ' M' σ' H' Hd' ls' r' (s1.ext.trans x')) (fun v d δ' M' σ' H' Hd' ls' r' x' => k2 v d δ' M' σ' H' Hd' ls' r' (s1.ext.trans x'))
      · exact ⟨xs, xs[i]'(by rw [da.length]; exact hi), ex_t x hq, by simp [da.length, hi]⟩
      · obtain ⟨e1, y⟩ := y
        obtain ⟨d, hd, dd⟩ := da.get (y xs (ex_t ex hq))
        exact ⟨e1, d, hd, dd⟩
def nums (lo : Int) (n : Nat) : List D := (List.range n).map fun (i : Nat) => .int (lo + i)
theorem nums_get {lo : Int} {n i : Nat} (h : i < n) : (nums lo n)[i]? = some (.int (lo + i)) := by simp [nums, h]
theorem nums_len {lo : Int} {n : Nat} : (nums lo n).length = n := by simp [nums]
theorem wb_forR1 (h : WD K ta δ M fun ds M1 => ∃ j, ds = [.int j] ∧ -(2 ^ 62) ≤ j ∧ j < 2 ^ 62 ∧ turns K n g tb (nums 0 j.toNat) δ M1 P) : WB K n (tFor (iRng1 ta) g tb) δ M P := fun e σ H Hd ls W hn r k1 k2 k3 k4 =>
  h σ H Hd ls _ r.sta fun vs ds M1 H1 Hd1 a1 s1 dv h1 => by
    obtain ⟨j, rfl, b1, b2, ht⟩ := h1
    cases dv with
    | cons d1 d2 =>
      cases d1; cases d2
      refine ⟨j, rfl, b1, b2, ?_⟩
      refine for_turns (D' := D) hn (r.go a1 s1) (fun i H' hi x => ?_) (fun H' x => ?_) (fun i H' x H2 hi ex y => ?_) ht (fun δ' M' σ' H' Hd' ls' r' x' => k1 δ' M' σ' H' Hd' ls' r' (s1.ext.trans x')) (fun v d δ' M' σ' H' Hd' ls' r' x' => k2 v d δ' M' σ' H' Hd' ls' r' (s1.ext.trans x'))
      · rw [nums_len] at hi; exact hi
      · rw [nums_len]; exact Nat.le_refl _
      · obtain ⟨e1, e2⟩ := y
        rw [nums_len] at hi
        exact ⟨e1, _, nums_get hi, by rw [e2]; exact .int _⟩
theorem wb_forR2 (h : WD K ta δ M fun ds M1 => ∃ i j, ds = [.int i, .int j] ∧ (-(2 ^ 62) ≤ i ∧ i < 2 ^ 62 ∧ -(2 ^ 62) ≤ j ∧ j < 2 ^ 62) ∧ turns K n g tb (nums i (j - i).toNat) δ M1 P) : WB K n (tFor (iRng2 ta) g tb) δ M P := fun e σ H Hd ls W hn r k1 k2 k3 k4 =>
  h σ H Hd ls _ r.sta fun vs ds M1 H1 Hd1 a1 s1 dv h1 => by
    obtain ⟨i0, j, rfl, b, ht⟩ := h1
    cases dv with
    | cons d1 d2 =>
      cases d1
      cases d2 with
      | cons d2 d3 =>
        cases d2; cases d3
        refine ⟨i0, j, rfl, b, ?_⟩
        refine for_turns (D' := D) hn (r.go a1 s1) (fun i H' hi x => ?_) (fun H' x => ?_) (fun i H' x H2 hi ex y => ?_) ht (fun δ' M' σ' H' Hd' ls' r' x' => k1 δ' M' σ' H' Hd' ls' r' (s1.ext.trans x')) (fun v d δ' M' σ' H' Hd' ls' r' x' => k2 v d δ' M' σ' H' Hd' ls' r' (s1.ext.trans x'))
        · rw [nums_len] at hi; exact hi
        · rw [nums_len]; exact Nat.le_refl _
        · obtain ⟨e1, e2⟩ := y
          rw [nums_len] at hi
          exact ⟨e1, _, nums_get hi, by rw [e2]; exact .int _⟩
end
end PW

set_option Elab.async false
set_option linter.all false
set_option maxRecDepth 100000
set_option maxHeartbeats 2000000
namespace PW
open PySem L2 Evl PySem.Spec PyProof.Rows

/-! ### comprehensions -/
def wipeD (δ : Dl) : List Nat → Dl
  | [] => δ
  | v :: vs => (wipeD δ vs).set v none
theorem wipeD_length (δ : Dl) : ∀ vs : List Nat, (wipeD δ vs).length = δ.length
  | [] => rfl
  | v :: vs => by unfold wipeD; rw [List.length_set, wipeD_length δ vs]
theorem wipeD_some {δ : Dl} {i : Nat} {x : C} : ∀ {vs : List Nat}, (wipeD δ vs)[i]? = some (some x) → δ[i]? = some (some x) ∧ i ∉ vs
  | [], h => ⟨h, by simp⟩
  | v :: vs, h => by
    unfold wipeD at h
    by_cases hi : v = i
    · subst hi
      rw [List.getElem?_set] at h
      simp only [if_true] at h
      split at h <;> cases h
    · rw [List.getElem?_set_ne hi] at h
      obtain ⟨a, b⟩ := wipeD_some h
      exact ⟨a, by simp; exact ⟨Ne.symm hi, b⟩⟩
theorem wipe_in {σ : L2.St} {i : Nat} : ∀ {vs : List Nat}, i ∈ vs → i < σ.length → (wipe σ vs)[i]? = some none
  | [], h, _ => by simp at h
  | v :: vs, h, hl => by
    unfold wipe
    by_cases hi : v = i
    · subst hi
      rw [List.getElem?_set_self (by rw [wipe_length]; exact hl)]
    · rw [List.getElem?_set_ne hi]
      exact wipe_in ((List.mem_cons.mp h).resolve_left (Ne.symm hi)) hl
theorem wipe_same {σ σ' : L2.St} {vs : List Nat} (hl : σ'.length = σ.length) (h : ∀ j, j ∉ vs → σ'[j]? = σ[j]?) : wipe σ' vs = wipe σ vs := by
  apply List.ext_getElem?
  intro i
  by_cases hi : i ∈ vs
  · by_cases hlt : i < σ.length
    · rw [wipe_in hi hlt, wipe_in hi (by rw [hl]; exact hlt)]
    · rw [List.getElem?_eq_none (by rw [wipe_length]; omega), List.getElem?_eq_none (by rw [wipe_length]; omega)]
  · rw [wipe_out hi, wipe_out hi, h i hi]
theorem wipe_wipe {σ : L2.St} {vs : List Nat} : wipe (wipe σ vs) vs = wipe σ vs := wipe_same (wipe_length _ _) fun _ h => wipe_out h
/-- a comprehension's target: names of its own alone -/
def WC (K : Fg) (g : TG) (vs : List Nat) (d : D) (δ : Dl) (M : Ms) (R : Dl → Prop) : Prop :=
  ∀ σ H Hd ls v Q, Sta K δ M σ H Hd ls → Dp K Hd v d → (∀ δ' σ', Sta K δ' M σ' H Hd ls → σ'.length = σ.length → (∀ j, j ∉ vs → σ'[j]? = σ[j]?) → R δ' → Q σ' H) → g v σ H Q
def WCs (K : Fg) (g : TGs) (vs : List Nat) (ds : List D) (δ : Dl) (M : Ms) (R : Dl → Prop) : Prop :=
  ∀ σ H Hd ls ws Q, Sta K δ M σ H Hd ls → DpAll K Hd ws ds → (∀ δ' σ', Sta K δ' M σ' H Hd ls → σ'.length = σ.length → (∀ j, j ∉ vs → σ'[j]? = σ[j]?) → R δ' → Q σ' H) → g ws σ H Q
section
variable {K : Fg} {δ : Dl} {M M' : Ms} {R : Dl → Prop} {g : TG} {gs : TGs} {d : D} {ds : List D} {vs : List Nat}
theorem wc_name {i : Nat} (hi : i ∈ vs) (q : R (δ.set i (some (.dat d)))) : WC K (gName i) vs d δ M R := fun σ H Hd ls v Q a dv k =>
  k _ _ (a.put dv) (by simp) (fun j hj => List.getElem?_set_ne (show i ≠ j from fun e => hj (by rw [← e]; exact hi))) q
theorem wcs_nil (q : R δ) : WCs K gNil vs [] δ M R := fun σ H Hd ls ws Q a dv k => by
  cases dv
  exact ⟨rfl, k δ σ a rfl (fun _ _ => rfl) q⟩
theorem wcs_cons (h : WC K g vs d δ M fun δ1 => WCs K gs vs ds δ1 M R) : WCs K (gCons g gs) vs (d :: ds) δ M R := fun σ H Hd ls ws Q a dv k => by
  cases dv with
  | cons d1 d2 => exact ⟨_, _, rfl, h σ H Hd ls _ _ a d1 fun δ1 σ1 a1 l1 j1 h1 => h1 σ1 H Hd ls _ Q a1 d2 fun δ2 σ2 a2 l2 j2 q => k δ2 σ2 a2 (l2.trans l1) (fun j hj => (j2 j hj).trans (j1 j hj)) q⟩
theorem wc_tup {n : Nat} (hn : ds.length = n) (h : WCs K gs vs ds δ M R) : WC K (gTup K n gs) vs (.tuple ds) δ M R := fun σ H Hd ls v Q a dv k => by
  cases dv with
  | tup hs ha => exact ⟨_, _, rfl, ex_t a.sub hs, by rw [ha.length]; exact hn, h σ H Hd ls _ Q a ha k⟩
end
/-- what the comprehension makes, turn by turn -/
def comp (K : Fg) (g : TG) (tt : TT) (te : TE) (vs : List Nat) : List D → Dl → Ms → List D → (List D → Ms → Prop) → Prop
  | [], _, M, acc, R => R acc M
  | d :: r, δ, M, acc, R => WC K g vs d δ M fun δ1 => WT K tt δ1 M fun b M1 => if b = true then WE K te δ1 M1 fun y M2 => acc.length < sizeLine ∧ comp K g tt te vs r δ M2 (acc ++ [y]) R else comp K g tt te vs r δ M1 acc R
section
variable {K : Fg} {δ : Dl} {M M' : Ms} {g : TG} {tt : TT} {te tl : TE} {ta : TA} {vs : List Nat} {RL : List D → Ms → Prop}
theorem Sta.wiped {σ : L2.St} {H Hd : Hp} {ls : List Addr} (a : Sta K δ M σ H Hd ls) : Sta K (wipeD δ vs) M (wipe σ vs) H Hd ls :=
  a.forget _ _ (by rw [wipe_length, wipeD_length, a.dlen]) fun i c h => by
    obtain ⟨h1, h2⟩ := wipeD_some h
    exact ⟨h1, wipe_out h2⟩
theorem comp_by {σ : L2.St} {H Hd : Hp} {ls : List Addr} {J : It} {ds : List D} {Q : VK} {H0 : Hp} (a : Sta K δ M σ H Hd ls)
    (hgo : ∀ (i : Nat) H', i < ds.length → Ex Hd H' → J.go i H') (hstop : ∀ H', Ex Hd H' → J.stop ds.length H')
    (hyld : ∀ (i : Nat) H' x H2, i < ds.length → Ex Hd H' → J.yld i H' x H2 → H2 = H' ∧ ∃ d, ds[i]? = some d ∧ Dp K Hd x d)
    (h : comp K g tt te vs ds (wipeD δ vs) M [] RL)
    (k : ∀ p xs es M' H' Hd', Sta K δ M' σ H' Hd' ls → Step H Hd ls H' Hd' → H p = none → Hd' p = none → p ∉ ls → H' p = some (.lst xs) → DpAll K Hd' xs es → RL es M' → Q (.ref p) H') :
    ∀ Dn, H Dn = none → ∃ W : Nat → Nat → Hp → Prop, (∃ m, W 0 m (upd H Dn (.lst []))) ∧ ∀ i m H, W i m H →
      (J.stop i H ∧ Q (.ref Dn) H) ∨ (J.go i H ∧ ∃ Nx : Hp → Prop, (∀ H', Nx H' → ∃ m', m' < m ∧ W (i + 1) m' H') ∧ ∀ x H', J.yld i H x H' → g x (wipe σ vs) H' fun σ2 H2 => wipe σ2 vs = wipe σ vs ∧ tt σ2 H2 fun b H3 =>
        if b = true then te σ2 H3 fun y H4 => ∃ acc, H4 Dn = some (.lst acc) ∧ acc.length < sizeLine ∧ Nx (upd H4 Dn (.lst (acc ++ [y]))) else Nx H3) := by
  intro Dn hDn
  have hHd : Hd Dn = none := by
    cases e : Hd Dn with
    | none => rfl
    | some o => rw [a.sub Dn o e] at hDn; cases hDn
  have nDn : Dn ∉ ls := not_ls a hDn
  have s0 : Step H Hd ls (upd H Dn (.lst [])) Hd := (step_new hDn).all
  have a0 : Sta K δ M σ (upd H Dn (.lst [])) Hd ls := a.up (step_new hDn) fun b o e => by
    have := a.sub b o e
    rw [upd_ne (ne_of_none this hDn)]; exact this
  -- what stands between the turns
  let In : Nat → Hp → Prop := fun i H' => ∃ M' Hd' xs acc, Sta K δ M' σ H' Hd' ls ∧ Step H Hd ls H' Hd' ∧ Hd' Dn = none ∧ H' Dn = some (.lst xs) ∧ DpAll K Hd' xs acc ∧ comp K g tt te vs (ds.drop i) (wipeD δ vs) M' acc RL
  refine ⟨fun i m H' => m = ds.length - i ∧ i ≤ ds.length ∧ In i H', ⟨ds.length, by simp, Nat.zero_le _, M, Hd, [], [], a0, s0, hHd, upd_same, .nil, by simpa using h⟩, ?_⟩
  rintro i m H1 ⟨rfl, hi, M1, Hd1, xs, acc, a1, s1, n1, h1, d1, c1⟩
  have ex1 : Ex Hd H1 := s1.ext.trans a1.sub
  by_cases hlt : i < ds.length
  · refine .inr ⟨hgo i H1 hlt ex1, In (i + 1), fun H' q => ⟨ds.length - (i + 1), by omega, rfl, hlt, q⟩, fun x H2 y => ?_⟩
    obtain ⟨e2, d, hd, dx⟩ := hyld i H1 x H2 hlt ex1 y
    subst e2
    have e3 : ds.drop i = d :: ds.drop (i + 1) := by
      rw [List.drop_eq_getElem_cons hlt]
      rw [List.getElem?_eq_getElem hlt] at hd
      rw [Option.some.inj hd]
    rw [e3] at c1
    have c2 : WC K g vs d (wipeD δ vs) M1 fun δ1 => WT K tt δ1 M1 fun b M1 => if b = true then WE K te δ1 M1 fun y M2 => acc.length < sizeLine ∧ comp K g tt te vs (ds.drop (i + 1)) (wipeD δ vs) M2 (acc ++ [y]) RL else comp K g tt te vs (ds.drop (i + 1)) (wipeD δ vs) M1 acc RL := c1
    refine c2 (wipe σ vs) H2 Hd1 ls x _ a1.wiped (dx.up s1.ext) fun δ2 σ2 a2 l2 j2 q2 => ⟨?_, ?_⟩
    · rw [wipe_same l2 j2, wipe_wipe]
    · -- back to the slots ahead of the turn
      have back : ∀ {δ3 : Dl} {M3 : Ms} {σ3 : L2.St} {H3 Hd3 : Hp}, Sta K δ3 M3 σ3 H3 Hd3 ls → Step H2 Hd1 ls H3 Hd3 → Sta K δ M3 σ H3 Hd3 ls := fun a3 s3 =>
        ⟨a3.sub, a3.mlen, a3.nd, a3.obj, a.dlen, fun j z hz => by
          obtain ⟨v, hv, dv⟩ := a1.dat j z hz
          exact ⟨v, hv, dv.up s3.ext⟩, a.own⟩
      refine q2 σ2 H2 Hd1 ls _ a2 fun b M3 H3 Hd3 a3 s3 q3 => ?_
      have n3 : Hd3 Dn = none := s3.new Dn (by rw [h1]; simp) n1
      have h3 : H3 Dn = some (.lst xs) := s3.old Dn _ h1 nDn
      cases b with
      | false =>
        simp only [Bool.false_eq_true, if_false] at q3 ⊢
        exact ⟨M3, Hd3, xs, acc, back a3 s3, s1.trans s3, n3, h3, d1.up s3.ext, q3⟩
      | true =>
        simp only [if_true] at q3 ⊢
        refine q3 σ2 H3 Hd3 ls _ a3 fun v y M4 H4 Hd4 a4 s4 dv q4 => ?_
        have s34 := s3.trans s4
        have n4 : Hd4 Dn = none := s4.new Dn (by rw [h3]; simp) n3
        have h4 : H4 Dn = some (.lst xs) := s4.old Dn _ h3 nDn
        have st : Step H4 Hd4 ls (upd H4 Dn (.lst (xs ++ [v]))) Hd4 → True := fun _ => trivial
        have a4' := back a4 s34
        refine ⟨xs, h4, by rw [d1.length]; exact q4.1, M4, Hd4, xs ++ [v], acc ++ [y], ?_, ?_, n4, upd_same, ((d1.up s34.ext).app (.one dv)), q4.2⟩
        · refine ⟨fun b u e => ?_, a4'.mlen, a4'.nd, fun j l m hl hm => ?_, a4'.dlen, a4'.dat, a4'.own⟩
          · rw [upd_ne (ne_of_none e n4)]; exact a4'.sub b u e
          · have hx : l ≠ Dn := fun e => nDn (e ▸ List.mem_of_getElem? hl)
            have := a4'.obj j l m hl hm
            cases m with
            | lst es => obtain ⟨z, ys, hy, hs⟩ := this; exact ⟨z, ys, by rw [upd_ne hx]; exact hy, hs⟩
            | dic es => obtain ⟨z, ys, hy, hk, hs⟩ := this; exact ⟨z, ys, by rw [upd_ne hx]; exact hy, hk, hs⟩
            | gone => exact this
        · have z := s1.trans s34
          refine ⟨z.ext, fun b u e n => ?_, z.new, fun b e => ?_⟩
          · have : b ≠ Dn := ne_of_none e hDn
            rw [upd_ne this]; exact z.old b u e n
          · by_cases e' : b = Dn
            · subst e'; rw [upd_same]; simp
            · rw [upd_ne e']; exact z.there b e
  · have e2 : i = ds.length := by omega
    subst e2
    rw [List.drop_length] at c1
    exact .inl ⟨hstop H1 ex1, k Dn xs acc M1 H1 Hd1 a1 s1 hDn n1 nDn h1 d1 c1⟩
theorem wl_lcL (h : WE K tl δ M fun d M1 => ∃ ds, d = .list ds ∧ comp K g tt te vs ds (wipeD δ vs) M1 [] RL) : WL K (tLc (iList K tl) g tt te vs) δ M RL := fun σ H Hd ls Q a k =>
  h σ H Hd ls _ a fun v d M1 H1 Hd1 a1 s1 dv h1 => by
    obtain ⟨ds, rfl, ht⟩ := h1
    cases dv with
    | lst hq da =>
      rename_i ad xs
      refine ⟨ad, rfl, ⟨_, ex_l a1.sub hq⟩, ?_⟩
      refine comp_by (H0 := H) a1 (fun i H' hi x => ?_) (fun H' x => ⟨xs, ex_l x hq, Nat.le_of_eq da.length⟩) (fun i H' x H2 hi ex y => ?_) ht fun p ys es M' H' Hd' a2 s2 e1 e2 e3 e4 e5 q => k p ys es M' H' Hd' a2 (s1.trans s2) ?_ e2 e3 e4 e5 q
      · exact ⟨xs, xs[i]'(by rw [da.length]; exact hi), ex_l x hq, by simp [da.length, hi]⟩
      · obtain ⟨e1, y⟩ := y
        obtain ⟨d, hd, dd⟩ := da.get (y xs (ex_l ex hq))
        exact ⟨e1, d, hd, dd⟩
      · cases e : H p with
        | none => rfl
        | some o => exact absurd e1 (s1.there p (by rw [e]; simp))
theorem wl_lcT (h : WE K tl δ M fun d M1 => ∃ ds, d = .tuple ds ∧ comp K g tt te vs ds (wipeD δ vs) M1 [] RL) : WL K (tLc (iTup K tl) g tt te vs) δ M RL := fun σ H Hd ls Q a k =>
  h σ H Hd ls _ a fun v d M1 H1 Hd1 a1 s1 dv h1 => by
    obtain ⟨ds, rfl, ht⟩ := h1
    cases dv with
    | tup hq da =>
      rename_i ad xs
      refine ⟨ad, rfl, ⟨_, ex_t a1.sub hq⟩, ?_⟩
      refine comp_by (H0 := H) a1 (fun i H' hi x => ?_) (fun H' x => ⟨xs, ex_t x hq, Nat.le_of_eq da.length⟩) (fun i H' x H2 hi ex y => ?_) ht fun p ys es M' H' Hd' a2 s2 e1 e2 e3 e4 e5 q => k p ys es M' H' Hd' a2 (s1.trans s2) ?_ e2 e3 e4 e5 q
      · exact ⟨xs, xs[i]'(by rw [da.length]; exact hi), ex_t x hq, by simp [da.length, hi]⟩
      · obtain ⟨e1, y⟩ := y
        obtain ⟨d, hd, dd⟩ := da.get (y xs (ex_t ex hq))
        exact ⟨e1, d, hd, dd⟩
      · cases e : H p with
        | none => rfl
        | some o => exact absurd e1 (s1.there p (by rw [e]; simp))
theorem wl_lcR1 (h : WD K ta δ M fun ds M1 => ∃ j, ds = [.int j] ∧ -(2 ^ 62) ≤ j ∧ j < 2 ^ 62 ∧ comp K g tt te vs (nums 0 j.toNat) (wipeD δ vs) M1 [] RL) : WL K (tLc (iRng1 ta) g tt te vs) δ M RL := fun σ H Hd ls Q a k =>
  h σ H Hd ls _ a fun us ds M1 H1 Hd1 a1 s1 dv h1 => by
    obtain ⟨j, rfl, b1, b2, ht⟩ := h1
    cases dv with
    | cons d1 d2 =>
      cases d1; cases d2
      refine ⟨j, rfl, b1, b2, ?_⟩
      refine comp_by (H0 := H) a1 (fun i H' hi x => ?_) (fun H' x => ?_) (fun i H' x H2 hi ex y => ?_) ht fun p ys es M' H' Hd' a2 s2 e1 e2 e3 e4 e5 q => k p ys es M' H' Hd' a2 (s1.trans s2) ?_ e2 e3 e4 e5 q
      · rw [nums_len] at hi; exact hi
      · rw [nums_len]; exact Nat.le_refl _
      · obtain ⟨e1, e2⟩ := y
        rw [nums_len] at hi
        exact ⟨e1, _, nums_get hi, by rw [e2]; exact .int _⟩
      · cases e : H p with
        | none => rfl
        | some o => exact absurd e1 (s1.there p (by rw [e]; simp))
theorem wt_yes {RB : Bool → Ms → Prop} (q : RB true M) : WT K tYes δ M RB := fun σ H Hd ls Q a k => k true M H Hd a Step.refl q
end
end PW

set_option Elab.async false
set_option linter.all false
set_option maxRecDepth 100000
set_option maxHeartbeats 2000000
namespace PW
open PySem L2 Evl PySem.Spec PyProof.Rows

/-! ### defs that know that no repr is running around them -/
structure FnG (P : Program) (w : World) (K : Fg) (mg : Str → Option Value) (base : Heap) (k : Nat) (f : Addr) (fd : FuncData) (ps : List Str) (sp : Sp) : Prop where
  arity : ∀ vs H Q E, sp vs H Q E → vs.length = ps.length
  runs : ∀ (A : Around) (outer : List Env) (s : Shared) (H : Hp) (args : Args) (us : List Value) (vs : List V) (Q : VK) (E : XK), Room k A → A.guards = some [] → Env0 P w K mg base A outer s H →
    BindsTo s fd args (ps.zip us) → Vals vs us → sp vs H Q E → codeAny (model P w) A (.call (.ref f) args) (CR CX0 outer P w H s Q E) s
section
variable {P : Program} {w : World} {K : Fg} {mg : Str → Option Value} {base : Heap}
theorem FnG.up {j k : Nat} {f : Addr} {fd : FuncData} {ps : List Str} {sp : Sp} (F : FnG P w K mg base j f fd ps sp) (h : j ≤ k) : FnG P w K mg base k f fd ps sp :=
  ⟨F.arity, fun A o s H a us vs Q E r => F.runs A o s H a us vs Q E (r.mono h)⟩
/-- by the body; the context's guards are known to it -/
theorem fng {x qual : Str} {st : Stmt} {f : Addr} {fd : FuncData} {N ps : List Str} {k : Nat} {sp : Sp} (F : Fun K x qual st f fd) (S : FnScope N ps (defScope st)) (ar : ∀ vs H Q E, sp vs H Q E → vs.length = ps.length)
    (body : ∀ (cdv : Value) (A : Around) (outer : List Env) (s : Shared) (H : Hp) (vs : List V) (Q : VK) (E : XK), Room k (A.deeper (envOfC qual (defScope st) s.heap.objs.size f cdv)) → (A.deeper (envOfC qual (defScope st) s.heap.objs.size f cdv)).guards = some [] →
      sp vs H Q E → ∃ t, PSs (cxOf CX0 P w K mg base N qual (defScope st) f cdv A outer s H E).nox (defBody st) t ∧ t { nx := fun _ H' => Q .non H', rt := Q } (L2.start N vs) H) : FnG P w K mg base (k + 1) f fd ps sp := by
  obtain ⟨oc, od, kV, doc, pm, an, cdv, ct, osl, efd, look, code⟩ := F.ex
  subst efd
  constructor
  · exact ar
  · intro A outer s H args us vs Q E room guard env0 bind vals want
    have arity := ar _ _ _ _ want
    have inK : K.In s.heap := env0.mod.kin.keeps fun b o q => (env0.bs b o q).1
    have noLim : s.heap.NoLimit := env0.mod.nolimit.keeps fun b o q => (env0.bs b o q).1
    have kinds : ∀ y ∈ ps.zip us, (defScope st).names.lookup y.1 = some .local ∨ ((defScope st).names.lookup y.1 = some .cell ∧ ((cellsFrom (s.heap.objs.size + 1) (defScope st).names []).lookup y.1).isSome = true) := by
      intro y hy
      obtain ⟨nm, vl⟩ := y
      have mem := (List.of_mem_zip hy).1
      rcases S.par nm mem with z | z
      · left; exact z
      · right; exact ⟨z, PySem.W.cellsFrom_some _ _ _ (Or.inl z)⟩
    refine codeAny_call_function room.depth (inK _ _ look) rfl S.co S.gen rfl (PySem.W.codeRec_of inK code) (bind _ _ _ _ ?_)
    refine wpAny_newFunctionEnv_cells S.kind kinds fun env eenv s1 inC => ?_
    subst eenv
    refine ⟨noLim.keeps inC.toInCall.keep, codeAny_func ?_⟩
    obtain ⟨t, der, red⟩ := body cdv A outer s H vs Q E (room.deeper _) guard want
    have inv0 := inv_start (CX := CX0) (E := E) S room.hd env0 arity vals inC
    have ended : ∀ (σ' : L2.St) (H' : Hp) (s' : Shared) (v : V) (u : Value), Inv (cxOf CX0 P w K mg base N qual (defScope st) f cdv A outer s H E) [] σ' H' s' → RelV v u → Q v H' → CE outer P w H s Q u s' :=
      fun σ' H' s' v u J rv q => ⟨v, H', J.os, J.bare, J.base, J.hok, rv, q⟩
    refine wpAny_mono (der.nox.run [] s1 (L2.start N vs) H _ inv0 red) ?_ (fun e s' z => z)
    intro fl s' z
    cases fl with
    | next => obtain ⟨σ', H', J, q⟩ := z; exact ended σ' H' s' V.non Value.none J rfl q
    | ret u => obtain ⟨v, σ', H', J, rv, q⟩ := z; exact ended σ' H' s' v u J rv q
    | brk => obtain ⟨_, _, _, q⟩ := z; exact q.elim
    | cont => obtain ⟨_, _, _, q⟩ := z; exact q.elim
end
section
variable {X : Cx} {k : Nat} {f : Addr} {fd : FuncData} {ps : List Str} {sp : Sp} {x : Str} {p pos : Pos} {e : Expr} {es : List Expr} {t : TA}
theorem fng_run {pins : List (Addr × Obj)} {σ : L2.St} {H : Hp} {s : Shared} {Q : VK} {us : List Value} {vs : List V} (F : FnG X.prog X.w X.K X.mg X.base k f fd ps sp) (hr : Room k X.A) (hg : X.A.guards = some []) (hb : Binds X.K fd ps [])
    (I : Inv X pins σ H s) (r : Vals vs us) (h : sp vs H Q E0) : wpAny (model X.prog X.w) X.A (call (.ref f) us) (EP X pins σ Q) X.xe s := by
  have many : us.length = ps.length := by rw [← r.length]; exact F.arity _ _ _ _ h
  have bound := hb s us I.kIn (by rw [List.append_nil]; exact many)
  rw [List.append_nil] at bound
  refine wpAny_call (codeAny_mono (F.runs X.A X.stack s H ⟨us, []⟩ us vs Q E0 hr hg I.env0 bound r h) ?_)
  intro res s' z
  cases res with
  | error err => exact (show False from z).elim
  | ok fl =>
    cases fl with
    | ret u => exact I.after z
    | next => exact (show False from z).elim
    | brk => exact (show False from z).elim
    | cont => exact (show False from z).elim
/-- f(e, ..) -/
theorem pg_call (F : FnG X.prog X.w X.K X.mg X.base k f fd ps sp) (hr : Room k X.A) (hg : X.A.guards = some []) (hgl : Gl X x) (hm : X.mg x = some (.ref f)) (hk : PySem.W.keepIn X.K (.ref f) = true) (hb : Binds X.K fd ps [])
    (ha : PA X (e :: es) t) (hdb : (x == ("__debug__" : Str)) = false := by decide) (he : starEach (e :: es) X.env = (false, eval e X.env) :: starEach es X.env := by rfl) (hpl : (backTo pos (starEach es X.env)).any (·.1) = false := by rfl) :
    PE X (.Call (.Name x p) (e :: es) [] pos) (tCall sp [] E0 t) := by
  constructor
  intro pins s σ H Q I h
  refine wpAny_Call_Name_kw (ld_glob I hgl hm ?_ hdb)
  refine PySem.W.callWith_K (h₀ := X.base) I.ok.mod.kin hk (thn (ha.run pos pins s σ H _ I h) ?_) he hpl
  intro us s1 z
  obtain ⟨vs, H1, I1, r, q⟩ := z
  have q' : sp (vs ++ []) H1 Q E0 := q
  rw [List.append_nil] at q'
  exact ⟨I1.kIn, fng_run F hr hg hb I1 r q'⟩
theorem pg_call0 (F : FnG X.prog X.w X.K X.mg X.base k f fd ps sp) (hr : Room k X.A) (hg : X.A.guards = some []) (hgl : Gl X x) (hm : X.mg x = some (.ref f)) (hk : PySem.W.keepIn X.K (.ref f) = true) (hb : Binds X.K fd ps [])
    (hdb : (x == ("__debug__" : Str)) = false := by decide) : PE X (.Call (.Name x p) [] [] pos) (tCall sp [] E0 tNil) := by
  constructor
  intro pins s σ H Q I h
  refine wpAny_Call_Name_kw (ld_glob I hgl hm ?_ hdb)
  exact PySem.W.callWith_K0 I.kIn hk (fng_run (us := []) F hr hg hb I .nil h)
end
/-- the promise of a def, by its body over data -/
theorem fgok {P : Program} {w : World} {K : Fg} {mg : Str → Option Value} {base : Heap} {x qual : Str} {st : Stmt} {f : Addr} {fd : FuncData} {N ps : List Str} {k : Nat} {S : FS} (F : Fun K x qual st f fd) (sc : FnScope N ps (defScope st)) (len : ∀ cs M R, S cs M R → cs.length = ps.length)
    (hbody : ∀ (cdv : Value) (A : Around) (outer : List Env) (s : Shared) (H : Hp) (E : XK), Room k (A.deeper (envOfC qual (defScope st) s.heap.objs.size f cdv)) → (A.deeper (envOfC qual (defScope st) s.heap.objs.size f cdv)).guards = some [] →
      ∃ t, PSs (cxOf CX0 P w K mg base N qual (defScope st) f cdv A outer s H E).nox (defBody st) t ∧
        ∀ cs M R, S cs M R → WB K M.length t (slots N cs) M { nx := fun _ M' => R .none (M'.take M.length), rt := fun d M' => R d (M'.take M.length) }) : FnG P w K mg base (k + 1) f fd ps (SpF K S) := by
  refine fng F sc (fun vs H Q E h => ?_) (fun cdv A outer s H vs Q E hr hg h => ?_)
  · obtain ⟨Hd, ls, cs, M, R, a, hs, _⟩ := h
    rw [a.vcs.length]; exact len cs M R hs
  · obtain ⟨t, d, hb⟩ := hbody cdv A outer s H E hr hg
    refine ⟨t, d, ?_⟩
    obtain ⟨Hd, ls, cs, M, R, a, hs, hq⟩ := h
    have fin : ∀ v d δ' M' σ' H' Hd' ls', Run K ⟨H, Hd, ls⟩ δ' M' σ' H' Hd' ls' → Dp K Hd' v d → R d (M'.take M.length) → Q v H' := fun v d δ' M' σ' H' Hd' ls' r dv q => by
      have hle : M.length ≤ M'.length := by rw [← a.mlen, ← r.sta.mlen]; exact r.pre.length_le
      refine hq v d (M'.take M.length) H' Hd' r.sta.sub r.step (by rw [List.length_take]; omega) (fun k l m h1 h2 => ?_) dv q
      have hk : k < M.length := by
        rw [← a.mlen]; exact (List.getElem?_eq_some_iff.mp h1).1
      rw [List.getElem?_take_of_lt hk] at h2
      refine r.sta.obj k l m ?_ h2
      obtain ⟨tl, et⟩ := r.pre
      rw [← et, List.getElem?_append_left (by rw [a.mlen]; exact hk)]
      exact h1
    refine hb cs M R hs ⟨H, Hd, ls⟩ (L2.start N vs) H Hd ls _ a.mlen ⟨sta_start N a, Step.refl, List.prefix_refl _, fun k l h1 h2 => ?_⟩ (fun δ' M' σ' H' Hd' ls' r x p q => ?_) (fun v d δ' M' σ' H' Hd' ls' r x p dv q => ?_) (fun δ' M' σ' H' Hd' ls' r x p q => q) (fun δ' M' σ' H' Hd' ls' r x p q => q)
    · have := (List.getElem?_eq_some_iff.mp h1).1
      exact absurd h2 (by show ¬ ls.length ≤ k; omega)
    · exact fin .non .none δ' M' σ' H' Hd' ls' r .non q
    · exact fin v d δ' M' σ' H' Hd' ls' r dv q

/-! ### repr of data -/
mutual
def noD : D → Bool
  | .dict _ => false
  | .list xs => noDs xs
  | .tuple xs => noDs xs
  | _ => true
def noDs : List D → Bool
  | [] => true
  | x :: xs => noD x && noDs xs
end
mutual
theorem noD_has : ∀ d : D, noD d = true → d.hasDict = false
  | .none, _ => by simp only [PyData.hasDict]
  | .bool _, _ => by simp only [PyData.hasDict]
  | .int _, _ => by simp only [PyData.hasDict]
  | .str _, _ => by simp only [PyData.hasDict]
  | .list xs, h => by simp only [PyData.hasDict]; exact noDs_has xs (by simpa [noD] using h)
  | .tuple xs, h => by simp only [PyData.hasDict]; exact noDs_has xs (by simpa [noD] using h)
  | .dict _, h => by simp [noD] at h
theorem noDs_has : ∀ ds : List D, noDs ds = true → PyData.hasDictAll ds = false
  | [], _ => by simp only [PyData.hasDictAll]
  | x :: xs, h => by
    have h' : noD x = true ∧ noDs xs = true := by simpa [noDs] using h
    simp only [PyData.hasDictAll, noD_has x h'.1, noDs_has xs h'.2, Bool.or_self]
end
mutual
def noL : D → Bool
  | .list _ => false
  | .tuple xs => noLs xs
  | _ => true
def noLs : List D → Bool
  | [] => true
  | x :: xs => noL x && noLs xs
end
theorem lf_reads {h : Heap} {d : D} {u : Value} (f : lfD d = true) (r : RelV (lfV d) u) : Reads h u d [] := by
  cases d with
  | none => cases (show u = Value.none from r); exact Reads.none
  | bool b => cases (show u = Value.bool b from r); exact Reads.bool b
  | int i => obtain ⟨t, e⟩ := (show ∃ t, u = Value.int i t from r); cases e; exact Reads.int i t
  | str x => obtain ⟨t, e⟩ := (show ∃ t, u = Value.str x t from r); cases e; exact Reads.str x t
  | list _ => cases f
  | tuple _ => cases f
  | dict _ => cases f
theorem dic_parts {P : Program} {w : World} {h : Heap} : ∀ (ps : List (Str × D)) {es : List DictEntry} {vs : List (Key × Value)}, Pairs (mixKind P w) es vs → KV (ps.map fun p => ((.inr p.1 : Key), lfV p.2)) vs → (ps.all fun p => lfD p.2) = true →
    ReadsAll h (es.map (·.key)) (ps.map fun p => PyData.str p.1) [] ∧ ReadsAll h (es.map (·.val)) (ps.map fun p => p.2) []
  | [], es, vs, hp, hk, _ => by
    cases hk
    cases hp
    exact ⟨.nil, .nil⟩
  | p :: ps, es, vs, hp, hk, hf => by
    have hf' : lfD p.2 = true ∧ (ps.all fun p => lfD p.2) = true := by simpa using hf
    cases hk with
    | cons h1 h2 =>
      cases hp with
      | cons g1 g2 g3 =>
        obtain ⟨a1, a2⟩ := dic_parts (h := h) ps g3 h2 hf'.2
        obtain ⟨e1, r1⟩ := h1
        have e1' : _ = (Sum.inr p.1 : Key) := e1.symm
        rw [e1'] at g1
        rcases keyIs_shape (k := .inr p.1) (show keyIs (.inr p.1) _ = true from g1) with ⟨i, t, e, _⟩ | ⟨x, t, e, e2⟩
        · cases e
        · cases e
          refine ⟨?_, ?_⟩
          · exact ReadsAll.cons (as := []) (bs := []) (by dsimp only; rw [e2]; exact Reads.str _ t) a1
          · exact ReadsAll.cons (as := []) (bs := []) (by dsimp only; rw [g2]; exact lf_reads hf'.1 r1) a2
section
variable {X : Cx} {pins : List (Addr × Obj)} {σ : L2.St} {H : Hp} {s : Shared}
theorem dic_reads (I : Inv X pins σ H s) {a : Addr} {ps : List (Str × D)} (hx : L2.Rd H a (.dK (ps.map fun p => ((.inr p.1 : Key), lfV p.2)))) (hf : (ps.all fun p => lfD p.2) = true) :
    Reads s.heap (.ref a) (.dict (ps.map fun p => (PyData.str p.1, p.2))) [a] ∧ (a == sysModules) = false := by
  obtain ⟨_, hs, vs, kv, o, es, ep, e, ex, ed, _, pr, _⟩ := dk_rd I.hok hx
  obtain ⟨r1, r2⟩ := dic_parts (h := s.heap) ps pr kv hf
  refine ⟨?_, hs⟩
  have := Reads.dict (kvs := ps.map fun p => (PyData.str p.1, p.2)) e ex.1 ed (as := []) (bs := []) (by rw [List.map_map]; exact r1) (by rw [List.map_map]; exact r2)
  exact this
mutual
theorem Dp.reads (I : Inv X pins σ H s) : ∀ (d : PyData) (v : V) (u : Value), Dp X.K H v d → RelV v u → ∃ as, Reads s.heap u d as ∧ (noL d = true → ∀ b ∈ as, (b == sysModules) = false)
  | .none, _, _, h, r => by
    cases h
    cases r
    exact ⟨_, Reads.none, fun _ b hb => nomatch hb⟩
  | .bool b, _, _, h, r => by
    cases h
    cases r
    exact ⟨_, Reads.bool b, fun _ b hb => nomatch hb⟩
  | .int i, _, _, h, r => by
    cases h
    obtain ⟨t, rfl⟩ := r
    exact ⟨_, Reads.int i t, fun _ b hb => nomatch hb⟩
  | .str x, _, _, h, r => by
    cases h
    obtain ⟨t, rfl⟩ := r
    exact ⟨_, Reads.str x t, fun _ b hb => nomatch hb⟩
  | .list ds, _, _, h, r => by
    cases h with
    | lst hs ha =>
      cases r
      obtain ⟨its, rv, ⟨o, n, ho, hc, _, hd⟩, _⟩ := I.list hs
      obtain ⟨as, hr, _⟩ := Dp.readsAll I ds _ its ha rv
      exact ⟨_, Reads.list ho hc hd hr, fun z => by simp [noL] at z⟩
  | .tuple ds, _, _, h, r => by
    cases h with
    | tup hs ha =>
      cases r
      obtain ⟨its, rv, ⟨o, ho, hc, n, hd⟩, _⟩ := I.tuple hs
      obtain ⟨as, hr, hn⟩ := Dp.readsAll I ds _ its ha rv
      exact ⟨_, Reads.tuple ho hc hd hr, fun z => hn (by simpa [noL] using z)⟩
  | .dict _, _, _, h, r => by
    cases h with
    | dic h0 hx hf =>
      cases r
      subst h0
      obtain ⟨r1, hs⟩ := dic_reads I hx hf
      exact ⟨_, r1, fun _ b hb => by
        rcases List.mem_cons.mp hb with e | hb
        · rw [e]; exact hs
        · cases hb⟩
theorem Dp.readsAll (I : Inv X pins σ H s) : ∀ (ds : List PyData) (vs : List V) (us : List Value), DpAll X.K H vs ds → Vals vs us → ∃ as, ReadsAll s.heap us ds as ∧ (noLs ds = true → ∀ b ∈ as, (b == sysModules) = false)
  | [], _, _, h, r => by
    cases h
    cases r
    exact ⟨_, ReadsAll.nil, fun _ b hb => nomatch hb⟩
  | d :: ds, _, _, h, r => by
    cases h with
    | cons h1 h2 =>
      cases r with
      | cons r1 r2 =>
        obtain ⟨as, q1, n1⟩ := Dp.reads I d _ _ h1 r1
        obtain ⟨bs, q2, n2⟩ := Dp.readsAll I ds _ _ h2 r2
        refine ⟨_, ReadsAll.cons q1 q2, fun z b hb => ?_⟩
        have z' : noL d = true ∧ noLs ds = true := by simpa [noLs] using z
        rcases List.mem_append.mp hb with hb | hb
        · exact n1 z'.1 b hb
        · exact n2 z'.2 b hb
end
end
theorem not_sys {as : List Addr} (h : ∀ b ∈ as, (b == sysModules) = false) : ¬ sysModules ∈ as := fun z => by
  have := h _ z
  simp at this
/-- what can be shown: ints of moderate size, not too deep, not too long -/
structure Shw (d : D) : Prop where
  one : d.hasDict = false ∨ noL d = true
  able : d.showable = true
  deep : d.depth ≤ 100
  short : d.shown.length ≤ sizeLine
def rRepr (K : Fg) : List V → Hp → VK → Prop := fun xs H Q => ∃ v d, xs = [v] ∧ Dp K H v d ∧ Shw d ∧ Q (.str d.shown) H
theorem call_repr {X : Cx} {k : Nat} (hr : Room k X.A) (hg : X.A.guards = some []) : CallR X (.builtin "repr") (rRepr X.K) := by
  intro pins s σ H xs us Q I r h
  obtain ⟨v, d, rfl, dv, sh, q⟩ := h
  have hu := hr.un
  cases r with
  | cons r1 r2 =>
    cases r2
    cases dv with
    | non => cases r1; exact P.repr_of_none ⟨.str _, H, I.tok _, ⟨_, rfl⟩, by simpa only [PyData.shown] using q⟩
    | bl b => cases r1; exact P.repr_of_bool ⟨.str _, H, I.tok _, ⟨_, rfl⟩, by simpa only [PyData.shown] using q⟩
    | int i =>
      obtain ⟨t, rfl⟩ := r1
      exact P.repr_of_int (by have := sh.able; simpa only [PyData.showable, decide_eq_true_eq] using this) ⟨.str _, H, I.tok _, ⟨_, rfl⟩, by simpa only [PyData.shown] using q⟩
    | str x =>
      obtain ⟨t, rfl⟩ := r1
      exact P.repr_of_str (hsz := by have := sh.short; simpa only [PyData.shown] using this) ⟨.str _, H, I.tok _, ⟨_, rfl⟩, by simpa only [PyData.shown] using q⟩
    | lst hs ha =>
      rename_i a xs ds
      have dv : Dp X.K H (.ref a) (.list ds) := .lst hs ha
      obtain ⟨as, rd, rn⟩ := Dp.reads I _ _ _ dv r1
      cases r1
      refine repr_of_reads' rd sh.able (fun z => ?_) hg ?_ (fun b o e => e) (fun h' u tk hk => ⟨.str _, H, I.kept (h' := h') (t' := tk) hk, ⟨_, rfl⟩, q⟩) sh.short
      · rcases sh.one with y | y
        · rw [y] at z; cases z
        · exact not_sys (rn y)
      · have := sh.deep; omega
    | tup hs ha =>
      rename_i a xs ds
      have dv : Dp X.K H (.ref a) (.tuple ds) := .tup hs ha
      obtain ⟨as, rd, rn⟩ := Dp.reads I _ _ _ dv r1
      cases r1
      refine repr_of_reads' rd sh.able (fun z => ?_) hg ?_ (fun b o e => e) (fun h' u tk hk => ⟨.str _, H, I.kept (h' := h') (t' := tk) hk, ⟨_, rfl⟩, q⟩) sh.short
      · rcases sh.one with y | y
        · rw [y] at z; cases z
        · exact not_sys (rn y)
      · have := sh.deep; omega
    | dic h0 hx hf =>
      rename_i a ps ks
      have dv : Dp X.K H (.ref a) (.dict ks) := .dic h0 hx hf
      obtain ⟨as, rd, rn⟩ := Dp.reads I _ _ _ dv r1
      cases r1
      refine repr_of_reads' rd sh.able (fun z => ?_) hg ?_ (fun b o e => e) (fun h' u tk hk => ⟨.str _, H, I.kept (h' := h') (t' := tk) hk, ⟨_, rfl⟩, q⟩) sh.short
      · rcases sh.one with y | y
        · rw [y] at z; cases z
        · exact not_sys (rn y)
      · have := sh.deep; omega
theorem cd_repr {K : Fg} {d : D} {R : D → Prop} (sh : Shw d) (q : R (.str d.shown)) : CD K (rRepr K) [d] R := fun H Hd vs Q ex da k => by
  cases da with
  | cons d1 d2 =>
    cases d2
    exact ⟨_, d, rfl, d1.up ex, sh, k _ _ H Hd Step.refl ex (.str _) q⟩
end PW

set_option Elab.async false
set_option linter.all false
set_option maxRecDepth 100000
set_option maxHeartbeats 2000000
namespace PW
open PySem L2 Evl PySem.Spec PyProof.Rows

/-- what a law must do: for every script of at most so many ints, True -/
def lawS (n : Nat) : FS := fun cs M R => ∃ ns : List Int, cs = [.dat (.list (ns.map .int))] ∧ M = [] ∧ ns.length ≤ n ∧ (∀ z ∈ ns, Builtin.Int.intBits z ≤ 1048576) ∧ ∀ M', R (.bool true) M'
theorem dpa_ints {K : Fg} {H : Hp} : ∀ ns : List Int, DpAll K H (ns.map V.int) (ns.map PyData.int)
  | [] => .nil
  | n :: ns => .cons (.int n) (dpa_ints ns)
theorem law_end {P : Program} {w : World} {K : Fg} {mg mb : Str → Option Value} {k n : Nat} {fa a : Addr} {fd : FuncData} {x : Str} {st : Shared} {vs : List Value} {ns : List Int}
    (inK : K.In st.heap) (glob : st.heap.Ns mainGlobals mg) (blt : st.heap.Ns builtinsNs mb) (boot : ∀ x : Str, x ≠ "__name__" → mb x = bootBuiltins x) (lim : st.heap.NoLimit) (gens : st.gens = #[])
    (script : st.heap.get? a = some { cls := .type "list", data := .seq vs.toArray }) (are : IntsAre vs ns) (short : ns.length ≤ n) (n0 : n ≤ sizeLine) (bits : ∀ z ∈ ns, Builtin.Int.intBits z ≤ 1048576) (room : Room k callerA)
    (F : ∀ base : Heap, K.In base → base.Ns mainGlobals mg → FnG P w K mg base k fa fd [x] (SpF K (lawS n))) (bind : ∀ (s : Shared) (u : Value), BindsTo s fd ⟨[u], []⟩ [(x, u)]) :
    codeAny (model P w) callerA (.call (.ref fa) ⟨[.ref a], []⟩) (fun r s' => r = .ok (.ret (.bool true)) ∧ OldK st.heap s'.heap ∧ s'.os = st.os ∧ AllBare s'.gens) st := by
  have vals := vals_ints are
  have many := are.length
  have asked : ∀ H : Hp, SqL K H a (ns.map V.int) → SpF K (lawS n) [.ref a] H (fun v _ => v = .bl true) E0 := fun H sq =>
    ⟨H, [], [.dat (.list (ns.map .int))], [], fun d _ => d = .bool true, ⟨Ex.refl _, rfl, List.nodup_nil, fun _ _ _ h => by simp at h, .cons (.lst sq (dpa_ints ns)) .nil⟩, ⟨ns, rfl, rfl, short, bits, fun _ => rfl⟩, fun v d M' H' Hd' _ _ _ _ dv e => by
      subst e; cases dv; rfl⟩
  -- the heap in which the script alone may be tracked
  have main : ∀ H : Hp, Only H → SqL K H a (ns.map V.int) → HOk P w H st.heap → (∀ b, H b ≠ none → b = a) → (H a ≠ none → K.lookup a = none) →
      codeAny (model P w) callerA (.call (.ref fa) ⟨[.ref a], []⟩) (fun r s' => r = .ok (.ret (.bool true)) ∧ OldK st.heap s'.heap ∧ s'.os = st.os ∧ AllBare s'.gens) st := by
    intro H only sq hok one apart
    have there : ∀ (b : Addr) (o : Obj), st.heap.get? b = some o → H b = none → (hidT st.heap H).get? b = some o := fun b o e n => hidT_get e n
    have dictFree : ∀ (b : Addr) (o : Obj) (es : Array DictEntry) (ep : Nat), st.heap.get? b = some o → o.data = .dict es ep → H b = none := by
      intro b o es ep e d
      cases hb : H b with
      | none => rfl
      | some u =>
        obtain rfl : b = a := one b (by rw [hb]; simp)
        rw [script] at e
        cases e
        exact nomatch d
    have keepNs : ∀ (b : Addr) (m : Str → Option Value), st.heap.Ns b m → (hidT st.heap H).Ns b m := by
      intro b m z
      obtain ⟨o, es, ep, e, d, r⟩ := z
      exact ⟨o, es, ep, there b o e (dictFree b o es ep e d), d, r⟩
    have baseK : K.In (hidT st.heap H) := by
      intro b o e
      refine there b o (inK b o e) ?_
      cases hb : H b with
      | none => rfl
      | some u =>
        obtain rfl : b = a := one b (by rw [hb]; simp)
        rw [apart (by rw [hb]; simp)] at e
        cases e
    have md : Mod K mg (hidT st.heap H) := ⟨baseK, keepNs _ _ glob, ⟨mb, keepNs _ _ blt, boot⟩, by obtain ⟨mc, h1, h2⟩ := lim; exact ⟨mc, keepNs _ _ h1, h2⟩⟩
    have env0 : Env0 P w K mg (hidT st.heap H) callerA [] st H :=
      ⟨rfl, md, fun b o e => of_hidT e, Nat.le_of_eq (hidT_size _ _), trivial, fun b hb => absurd (show b ∈ ([] : List Addr) from hb) (by simp), hok, .of_eq gens⟩
    refine codeAny_mono ((F _ baseK (keepNs _ _ glob)).runs callerA [] st H ⟨[.ref a], []⟩ [.ref a] [.ref a] _ _ room rfl env0 (bind st (.ref a)) (.cons rfl .nil) (asked H sq)) ?_
    intro r s' z
    cases r with
    | error e => exact (show False from z).elim
    | ok fl =>
      cases fl with
      | next => exact (show False from z).elim
      | brk => exact (show False from z).elim
      | cont => exact (show False from z).elim
      | ret u =>
        obtain ⟨v, H', os, bare, un, hok', rel, q⟩ := z
        have q' : v = V.bl true := q
        subst q'
        obtain rfl : u = Value.bool true := rel
        refine ⟨rfl, OldK.of_keep fun b o e => ?_, os, bare⟩
        cases hb : H b with
        | none => exact un.keep b o e hb (fun m => absurd (show b ∈ ([] : List Addr) from m) (by simp)) (fun m => absurd (show b ∈ ([] : List Addr) from m) (by simp))
        | some y =>
          rcases only b with z | ⟨ob, xs, z⟩
          · rw [hb] at z; cases z
          · have e1 := (hok b _ z).1
            have e2 := (hok' b _ (un.frzs b ob _ z)).1
            rw [e] at e1
            cases e1
            exact e2
  cases hk : K.lookup a with
  | some o =>
    have e := inK a o hk
    rw [script] at e
    cases e
    exact main (fun _ => none) (fun _ => .inl rfl) (.inr ⟨_, vs.toArray, _, hk, rfl, rfl, rfl, by rw [List.size_toArray, many]; omega, by simpa using vals⟩) (fun b u z => absurd (show (none : Option HO) = some u from z) (by simp)) (fun b z => (z rfl).elim) (fun z => (z rfl).elim)
  | none =>
    have only1 : ∀ b u, (if b = a then some (HO.frz { cls := .type "list", data := .seq vs.toArray } (.lst (ns.map V.int))) else none) = some u → b = a ∧ u = HO.frz { cls := .type "list", data := .seq vs.toArray } (.lst (ns.map V.int)) := by
      intro b u z
      split at z
      · rename_i hb; cases z; exact ⟨hb, rfl⟩
      · cases z
    refine main (fun b => if b = a then some (HO.frz { cls := .type "list", data := .seq vs.toArray } (.lst (ns.map V.int))) else none) (fun b => ?_) (.inl (.inr ⟨_, if_pos rfl⟩)) (fun b u z => ?_) (fun b z => ?_) (fun _ => hk)
    · by_cases hb : b = a
      · exact .inr ⟨_, _, if_pos hb⟩
      · exact .inl (if_neg hb)
    · obtain ⟨rfl, rfl⟩ := only1 b u z
      exact ⟨script, by rw [List.length_map]; omega, vs, _, vals, script⟩
    · by_cases hb : b = a
      · exact hb
      · exact absurd (if_neg hb) z
/-- the row's end: the law's def keeps lawS -/
theorem walk_g {l : PySem.W.OpenLaw} {n k : Nat} {q : Program} {loose : List Str} {XP : (Str → Option Value) → Heap → Prop} {YP : World → Heap → Prop} {d : DefRec} {K : Params → Fg} {x : Str}
    (hn : l.most = some n) (hn2 : n ≤ sizeLine) (hdf : d.params.defaults = []) (hr : Room k callerA) (hY : ∀ (w : World) (h : Heap), YP w h → (K w.params).In h)
    (F : ∀ (w : World) (mg : Str → Option Value) (fa : Addr) (h : Heap), (K w.params).In h → h.Ns mainGlobals mg → mg d.name = some (.ref fa) →
      ∃ fd : FuncData, (∀ (s : Shared) (u : Value), BindsTo s fd ⟨[u], []⟩ [(x, u)]) ∧ ∀ base : Heap, (K w.params).In base → base.Ns mainGlobals mg → FnG l.prog w (K w.params) mg base k fa fd [x] (SpF (K w.params) (lawS n))) :
    PySem.W.WalkO q loose XP YP l.row.toRowW d [] (fun f vs => PySem.call f vs) := by
  refine Att.attach_callB hn hdf ?_
  intro w s0 s1 mg mb fa o pm cd doc a vs ns G Y ho hd hcd hmg hobj hints hlen hbits hg
  obtain ⟨fd, hb, hF⟩ := F w mg fa _ (hY w _ Y) G.T.g hmg
  exact law_end (hY w _ Y) G.T.g G.T.b G.T.builtins G.T.nolimit hg hobj hints hlen hn2 hbits hr hF hb
end PW

set_option Elab.async false
set_option linter.all false
set_option maxRecDepth 100000
set_option maxHeartbeats 2000000
namespace PW
open PySem L2 Evl PySem.Spec PyProof.Rows

/-! ### operators of the layer that take lists however they stand -/
section
variable {X : Cx}
/-- xs + ys -/
def rCatS (K : Fg) : R2 := fun x y H Q => ∃ l b xs zs, x = .ref l ∧ y = .ref b ∧ SqL K H l xs ∧ SqL K H b zs ∧ xs.length + zs.length ≤ sizeLine ∧ ∀ p, H p = none → Q (.ref p) (upd H p (.lst (xs ++ zs)))
theorem op_catS : OpR X (binaryOp .Add) (rCatS X.K) := by
  intro pins s σ H x y v u Q I rx ry h
  obtain ⟨l, b, xs, zs, rfl, rfl, hl, hb, hz, q⟩ := h
  cases rx
  cases ry
  obtain ⟨i1, r1, p1, z1⟩ := I.list hl
  obtain ⟨i2, r2, p2, z2⟩ := I.list hb
  have l1 := r1.length
  have l2 := r2.length
  obtain ⟨⟨c1, dd1, da1, sl1⟩, n1, e1, hc1, hd1, ha1⟩ := p1
  obtain ⟨⟨c2, dd2, da2, sl2⟩, n2, e2, hc2, hd2, ha2⟩ := p2
  simp only at hc1 hd1 ha1 hc2 hd2 ha2
  subst hc1 hd1 ha1 hc2 hd2 ha2
  refine concat_meets ⟨_, e1, rfl⟩ ⟨_, e2, rfl⟩ noFill_list_add seq_list_add F.slot_list_add F.entry_list_add (F.args_list_add_2 _ _) (list_addW l b i1.toArray i2.toArray n1 n2 none none sl1 sl2 (by simp only [List.size_toArray]; omega)) ⟨e1, e2, ?_⟩
  rw [show i1.toArray ++ i2.toArray = (i1 ++ i2).toArray by simp]
  exact ⟨.ref _, _, I.lnew (t' := s.toks) (r1.append r2) (by rw [List.length_append]; omega), rfl, q _ I.fresh⟩
/-- a power of a great int -/
theorem op_powW : OpR X (binaryOp .Pow) (rI (fun i j => 0 ≤ j ∧ (Builtin.Int.intBits i : Int) * j ≤ 2 ^ 27) fun i j => .int (i ^ j.toNat)) := opI fun _ _ _ _ _ _ _ hc q => PyProof.Rows.pow_int hc.1 hc.2 q
end

/-! ### operators over data -/
section
variable {K : Fg} {R : D → Prop} {RL : List D → Prop} {x y : D}
theorem od_I0 {g : Int → Int → V} {i j : Int} {d : D} (hd : ∀ H, Dp K H (g i j) d) (q : R d) : OD K (rI0 g) (.int i) (.int j) R := fun H Hd v w Q ex dx dy k => by
  cases dx; cases dy
  exact ⟨i, j, rfl, rfl, k _ d H Hd Step.refl ex (hd Hd) q⟩
theorem od_I {C : Int → Int → Prop} {g : Int → Int → V} {i j : Int} {d : D} (hc : C i j) (hd : ∀ H, Dp K H (g i j) d) (q : R d) : OD K (rI C g) (.int i) (.int j) R := fun H Hd v w Q ex dx dy k => by
  cases dx; cases dy
  exact ⟨i, j, rfl, rfl, hc, k _ d H Hd Step.refl ex (hd Hd) q⟩
theorem od_int0 {g : Int → Int → Int} {i j : Int} (q : R (.int (g i j))) : OD K (rI0 fun i j => .int (g i j)) (.int i) (.int j) R := od_I0 (fun _ => .int _) q
theorem od_bl0 {g : Int → Int → Bool} {i j : Int} (q : R (.bool (g i j))) : OD K (rI0 fun i j => .bl (g i j)) (.int i) (.int j) R := od_I0 (fun _ => .bl _) q
theorem od_int {C : Int → Int → Prop} {g : Int → Int → Int} {i j : Int} (hc : C i j) (q : R (.int (g i j))) : OD K (rI C fun i j => .int (g i j)) (.int i) (.int j) R := od_I hc (fun _ => .int _) q
theorem OD.or1 {r r' : R2} (h : OD K r x y R) : OD K (fun a b H Q => r a b H Q ∨ r' a b H Q) x y R := fun H Hd v w Q ex dx dy k => .inl (h H Hd v w Q ex dx dy k)
theorem OD.or2 {r r' : R2} (h : OD K r' x y R) : OD K (fun a b H Q => r a b H Q ∨ r' a b H Q) x y R := fun H Hd v w Q ex dx dy k => .inr (h H Hd v w Q ex dx dy k)
theorem OL.or1 {r r' : R2} (h : OL K r x y RL) : OL K (fun a b H Q => r a b H Q ∨ r' a b H Q) x y RL := fun H Hd v w Q ex dx dy k => .inl (h H Hd v w Q ex dx dy k)
theorem OL.or2 {r r' : R2} (h : OL K r' x y RL) : OL K (fun a b H Q => r a b H Q ∨ r' a b H Q) x y RL := fun H Hd v w Q ex dx dy k => .inr (h H Hd v w Q ex dx dy k)
mutual
theorem canL {K : Fg} {H : Hp} : ∀ (d : D) (v : V), Dp K H v d → PyData.canLay0 d = true → L2.Dp K H v d
  | .none, _, h, _ => by cases h; exact .non
  | .bool b, _, h, _ => by cases h; exact .bl b
  | .int i, _, h, _ => by cases h; exact .int i
  | .str x, _, h, _ => by cases h; exact .str x
  | .list ds, _, h, c => by
    cases h with
    | lst hs ha => exact .lst hs (canLs ds _ ha (by rw [PyData.canLay0.eq_5] at c; exact c))
  | .tuple ds, _, h, c => by
    cases h with
    | tup hs ha => exact .tup hs (canLs ds _ ha (by rw [PyData.canLay0.eq_6] at c; exact c))
  | .dict _, _, _, c => by rw [PyData.canLay0.eq_7] at c; cases c
theorem canLs {K : Fg} {H : Hp} : ∀ (ds : List D) (vs : List V), DpAll K H vs ds → PyData.canLayAll0 ds = true → L2.DpAll K H vs ds
  | [], _, h, _ => by cases h; exact .nil
  | d :: ds, _, h, c => by
    cases h with
    | cons h1 h2 =>
      have c' : PyData.canLay0 d = true ∧ PyData.canLayAll0 ds = true := by rw [PyData.canLayAll0.eq_2] at c; simpa using c
      exact .cons (canL d _ h1 c'.1) (canLs ds _ h2 c'.2)
end
theorem shL {K : Fg} {H : Hp} {d : D} {v : V} (h : Dp K H v d) (s : SeqAt.shaped d = true) : L2.Dp K H v d := canL d v h (by
  have : PyData.canLay0 d = true ∧ d.depth ≤ 64 := by simpa [SeqAt.shaped] using s
  exact this.1)
theorem od_eqD (sx : SeqAt.shaped x = true) (sy : SeqAt.shaped y = true) (q : R (.bool (PyData.eqv x y))) : OD K (rEqD K) x y R := fun H Hd v w Q ex dx dy k =>
  ⟨x, y, shL (dx.up ex) sx, shL (dy.up ex) sy, sx, sy, k _ _ H Hd Step.refl ex (.bl _) q⟩
theorem od_neD (sx : SeqAt.shaped x = true) (sy : SeqAt.shaped y = true) (q : R (.bool (!PyData.eqv x y))) : OD K (rNeD K) x y R := fun H Hd v w Q ex dx dy k =>
  ⟨x, y, shL (dx.up ex) sx, shL (dy.up ex) sy, sx, sy, k _ _ H Hd Step.refl ex (.bl _) q⟩
theorem od_eqS {a b : Str} (q : R (.bool (a == b))) : OD K rEq (.str a) (.str b) R := fun H Hd v w Q ex dx dy k => by
  cases dx; cases dy
  exact ⟨rfl, by rw [dec_str]; exact k _ _ H Hd Step.refl ex (.bl _) q⟩
theorem od_neS {a b : Str} (q : R (.bool (!(a == b)))) : OD K rNe (.str a) (.str b) R := fun H Hd v w Q ex dx dy k => by
  cases dx; cases dy
  exact ⟨rfl, by rw [dec_str]; exact k _ _ H Hd Step.refl ex (.bl _) q⟩
def isNone : D → Bool
  | .none => true
  | _ => false
theorem dp_none {H : Hp} {v : V} (h : Dp K H v x) : decide (v = V.non) = isNone x := by
  cases h <;> simp [isNone]
theorem od_isN (q : R (.bool (isNone x))) : OD K (fun x y H Q => y = .non ∧ Q (.bl (decide (x = .non))) H) x .none R := fun H Hd v w Q ex dx dy k => by
  cases dy
  exact ⟨rfl, by rw [dp_none dx]; exact k _ _ H Hd Step.refl ex (.bl _) q⟩
theorem od_notN (q : R (.bool (!isNone x))) : OD K (fun x y H Q => y = .non ∧ Q (.bl (!decide (x = .non))) H) x .none R := fun H Hd v w Q ex dx dy k => by
  cases dy
  exact ⟨rfl, by rw [dp_none dx]; exact k _ _ H Hd Step.refl ex (.bl _) q⟩
/-! in -/
def flatD : D → Bool
  | .none => true
  | .bool _ => true
  | .int _ => true
  | .str _ => true
  | _ => false
theorem flat_of {H : Hp} {v : V} (h : Dp K H v x) (f : flatD x = true) : flatV v = true := by
  cases h <;> first | rfl | exact absurd f (by simp [flatD])
theorem flats_of {H : Hp} : ∀ {vs : List V} {ds : List D}, DpAll K H vs ds → ds.all flatD = true → vs.all flatV = true
  | [], _, h, f => rfl
  | v :: vs, _, h, f => by
    cases h with
    | cons h1 h2 =>
      rw [List.all_cons, Bool.and_eq_true] at f ⊢
      exact ⟨flat_of h1 f.1, flats_of h2 f.2⟩
theorem eqV_of {H : Hp} {v w : V} (h : Dp K H v x) (g : Dp K H w y) (f : flatD x = true) (f' : flatD y = true) : eqV v w = PyData.eqv x y := by
  cases h <;> cases g <;> first | (simp [eqV, PyData.eqv]; done) | exact absurd f (by simp [flatD]) | exact absurd f' (by simp [flatD])
theorem inV_of {H : Hp} {v : V} (g : Dp K H v x) (f' : flatD x = true) : ∀ {vs : List V} {ds : List D}, DpAll K H vs ds → ds.all flatD = true → inV v vs = ds.any fun z => PyData.eqv z x
  | [], _, h, f => by cases h; rfl
  | w :: vs, _, h, f => by
    cases h with
    | cons h1 h2 =>
      rw [List.all_cons, Bool.and_eq_true] at f
      have ih := inV_of g f' h2 f.2
      unfold inV at ih ⊢
      rw [List.any_cons, List.any_cons, ih, eqV_of h1 g f.1 f']
theorem od_inT {ds : List D} (f : flatD x = true) (fs : ds.all flatD = true) (q : R (.bool (ds.any fun z => PyData.eqv z x))) : OD K (rIn K false) x (.tuple ds) R := fun H Hd v w Q ex dx dy k => by
  cases dy with
  | tup hs ha =>
    refine ⟨_, _, rfl, .inr (ex_t ex hs), flat_of dx f, flats_of ha fs, ?_⟩
    have e := inV_of dx f ha fs
    simp only [Bool.false_eq_true, if_false, e]
    exact k _ _ H Hd Step.refl ex (.bl _) q
theorem od_notInT {ds : List D} (f : flatD x = true) (fs : ds.all flatD = true) (q : R (.bool (!ds.any fun z => PyData.eqv z x))) : OD K (rIn K true) x (.tuple ds) R := fun H Hd v w Q ex dx dy k => by
  cases dy with
  | tup hs ha =>
    refine ⟨_, _, rfl, .inr (ex_t ex hs), flat_of dx f, flats_of ha fs, ?_⟩
    have e := inV_of dx f ha fs
    simp only [if_true, e]
    exact k _ _ H Hd Step.refl ex (.bl _) q
theorem od_inL {ds : List D} (f : SeqAt.shaped x = true) (fs : SeqAt.shaped (.list ds) = true) (q : R (.bool (ds.any fun z => PyData.eqv z x))) : OD K (rInD K) x (.list ds) R := fun H Hd v w Q ex dx dy k =>
  ⟨x, ds, shL (dx.up ex) f, shL (dy.up ex) fs, f, fs, k _ _ H Hd Step.refl ex (.bl _) q⟩
theorem od_notInL {ds : List D} (f : SeqAt.shaped x = true) (fs : SeqAt.shaped (.list ds) = true) (q : R (.bool (!ds.any fun z => PyData.eqv z x))) : OD K (rNotInD K) x (.list ds) R := fun H Hd v w Q ex dx dy k =>
  ⟨x, ds, shL (dx.up ex) f, shL (dy.up ex) fs, f, fs, k _ _ H Hd Step.refl ex (.bl _) q⟩
/-! items -/
theorem atI_up {H : Hp} {vs : List V} {ds : List D} {i : Int} {d : D} (h : DpAll K H vs ds) (e : atI ds i = some d) : ∃ v, atI vs i = some v ∧ Dp K H v d := by
  unfold atI at e ⊢
  rw [h.length]
  cases q : ixN ds.length i with
  | none => rw [q] at e; cases e
  | some j =>
    rw [q] at e
    exact h.got e
theorem od_ixL {ds : List D} {i : Int} {d : D} (e : atI ds i = some d) (q : R d) : OD K (rIxL K) (.list ds) (.int i) R := fun H Hd v w Q ex dx dy k => by
  cases dy
  cases dx with
  | lst hs ha =>
    obtain ⟨u, hu, du⟩ := atI_up ha e
    exact ⟨_, _, i, u, rfl, rfl, ex_l ex hs, hu, k _ _ H Hd Step.refl ex du q⟩
theorem od_ixT {ds : List D} {i : Int} {d : D} (e : atI ds i = some d) (q : R d) : OD K (rIxT K) (.tuple ds) (.int i) R := fun H Hd v w Q ex dx dy k => by
  cases dy
  cases dx with
  | tup hs ha =>
    obtain ⟨u, hu, du⟩ := atI_up ha e
    exact ⟨_, _, i, u, rfl, rfl, ex_t ex hs, hu, k _ _ H Hd Step.refl ex du q⟩
theorem od_ixS {z : Str} {i : Int} {c : Nat} (hz : z.length ≤ sizeLine) (e : atI z.cps.toList i = some c) (q : R (.str ⟨#[c]⟩)) : OD K rIxS (.str z) (.int i) R := fun H Hd v w Q ex dx dy k => by
  cases dy; cases dx
  exact ⟨z, i, c, rfl, rfl, hz, e, k _ _ H Hd Step.refl ex (.str _) q⟩
theorem od_ix_l {ds : List D} {i : Int} {d : D} (e : atI ds i = some d) (q : R d) : OD K (rIx K) (.list ds) (.int i) R := fun H Hd v w Q ex dx dy k => .inl (od_ixL e q H Hd v w Q ex dx dy k)
theorem od_ix_t {ds : List D} {i : Int} {d : D} (e : atI ds i = some d) (q : R d) : OD K (rIx K) (.tuple ds) (.int i) R := fun H Hd v w Q ex dx dy k => .inr (.inl (od_ixT e q H Hd v w Q ex dx dy k))
theorem od_ix_s {z : Str} {i : Int} {c : Nat} (hz : z.length ≤ sizeLine) (e : atI z.cps.toList i = some c) (q : R (.str ⟨#[c]⟩)) : OD K (rIx K) (.str z) (.int i) R := fun H Hd v w Q ex dx dy k => .inr (.inr (od_ixS hz e q H Hd v w Q ex dx dy k))
/-! + of lists, of tuples -/
theorem ol_cat {xs ys : List D} (hz : xs.length + ys.length ≤ sizeLine) (q : RL (xs ++ ys)) : OL K (rCatS K) (.list xs) (.list ys) RL := fun H Hd v w Q ex dx dy k => by
  cases dx with
  | lst h1 a1 =>
    cases dy with
    | lst h2 a2 => exact ⟨_, _, _, _, rfl, rfl, ex_l ex h1, ex_l ex h2, by rw [a1.length, a2.length]; exact hz, fun p hp => k p _ _ hp (a1.app a2) q⟩
theorem tupNew {H Hd : Hp} {xs : List V} {ds : List D} {p : Addr} (ex : Ex Hd H) (hp : H p = none) (da : DpAll K Hd xs ds) : Step H Hd [] (upd H p (.tup xs)) (upd Hd p (.tup xs)) ∧ Ex (upd Hd p (.tup xs)) (upd H p (.tup xs)) ∧ Dp K (upd Hd p (.tup xs)) (.ref p) (.tuple ds) := by
  have hd : Hd p = none := by
    cases e : Hd p with
    | none => rfl
    | some o => rw [ex p o e] at hp; cases hp
  have en : Ex Hd (upd Hd p (.tup xs)) := Ex.new hd
  refine ⟨⟨en, (step_new hp (Hd := Hd)).old, fun b h1 h2 => ?_, (step_new hp (Hd := Hd)).there⟩, fun b o e => ?_, .tup (SqT.of upd_same) (da.up en)⟩
  · have : b ≠ p := fun z => h1 (z ▸ hp)
    rw [upd_ne this]; exact h2
  · by_cases e' : b = p
    · subst e'; rw [upd_same] at e; cases e; exact upd_same
    · rw [upd_ne e'] at e; rw [upd_ne e']; exact ex b o e
theorem od_catT {xs ys : List D} (hx : xs ≠ []) (hz : xs.length + ys.length ≤ sizeLine) (q : R (.tuple (xs ++ ys))) : OD K (rCatT K) (.tuple xs) (.tuple ys) R := fun H Hd v w Q ex dx dy k => by
  cases dx with
  | tup h1 a1 =>
    cases dy with
    | tup h2 a2 =>
      refine ⟨_, _, _, _, rfl, rfl, ex_t ex h1, ex_t ex h2, fun e => ?_, by rw [a1.length, a2.length]; exact hz, fun e => ?_, fun e p hp => ?_⟩
      · have := a1.length; rw [e] at this; exact hx (List.length_eq_zero_iff.mp this.symm)
      · have : ys = [] := by have := a2.length; rw [e] at this; exact List.length_eq_zero_iff.mp this.symm
        subst this
        rw [List.append_nil] at q
        exact k _ _ H Hd Step.refl ex (.tup h1 a1) q
      · obtain ⟨s1, e1, d1⟩ := tupNew ex hp (a1.app a2)
        exact k _ _ _ _ s1 e1 d1 q
/-! built-ins -/
theorem cd_abs {i : Int} (q : R (.int (if i < 0 then -i else i))) : CD K (fun xs H Q => ∃ i, xs = [.int i] ∧ Q (.int (if i < 0 then -i else i)) H) [.int i] R := fun H Hd vs Q ex da k => by
  cases da with
  | cons d1 d2 => cases d1; cases d2; exact ⟨i, rfl, k _ _ H Hd Step.refl ex (.int _) q⟩
theorem cd_int {i : Int} (q : R (.int i)) : CD K (fun xs H Q => (∃ i, xs = [.int i] ∧ Q (.int i) H) ∨ ∃ k, xs = [.bl k] ∧ Q (.int (if k then 1 else 0)) H) [.int i] R := fun H Hd vs Q ex da k => by
  cases da with
  | cons d1 d2 => cases d1; cases d2; exact .inl ⟨i, rfl, k _ _ H Hd Step.refl ex (.int _) q⟩
theorem cd_intB {b : Bool} (q : R (.int (if b then 1 else 0))) : CD K (fun xs H Q => (∃ i, xs = [.int i] ∧ Q (.int i) H) ∨ ∃ k, xs = [.bl k] ∧ Q (.int (if k then 1 else 0)) H) [.bool b] R := fun H Hd vs Q ex da k => by
  cases da with
  | cons d1 d2 => cases d1; cases d2; exact .inr ⟨b, rfl, k _ _ H Hd Step.refl ex (.int _) q⟩
theorem cd_max2 {i j : Int} (q : R (.int (if j > i then j else i))) : CD K (fun xs H Q => ∃ i j, xs = [.int i, .int j] ∧ Q (.int (if j > i then j else i)) H) [.int i, .int j] R := fun H Hd vs Q ex da k => by
  cases da with
  | cons d1 d2 => cases d1; cases d2 with | cons d2 d3 => cases d2; cases d3; exact ⟨i, j, rfl, k _ _ H Hd Step.refl ex (.int _) q⟩
theorem cd_min2 {i j : Int} (q : R (.int (if j < i then j else i))) : CD K (fun xs H Q => ∃ i j, xs = [.int i, .int j] ∧ Q (.int (if j < i then j else i)) H) [.int i, .int j] R := fun H Hd vs Q ex da k => by
  cases da with
  | cons d1 d2 => cases d1; cases d2 with | cons d2 d3 => cases d2; cases d3; exact ⟨i, j, rfl, k _ _ H Hd Step.refl ex (.int _) q⟩
def rLenD (K : Fg) : List V → Hp → VK → Prop := fun xs H Q => (∃ p ys, xs = [.ref p] ∧ (SqL K H p ys ∨ SqT K H p ys) ∧ Q (.int ys.length) H) ∨ ∃ z, xs = [.str z] ∧ z.length ≤ sizeLine ∧ Q (.int z.length) H
theorem call_lenD {X : Cx} : CallR X (.builtin "len") (rLenD X.K) := by
  intro pins s σ H xs us Q I r h
  rcases h with h | h
  · exact call_len_seq pins s σ H xs us Q I r h
  · exact call_len_str pins s σ H xs us Q I r h
theorem cd_lenL {ds : List D} (q : R (.int ds.length)) : CD K (rLenD K) [.list ds] R := fun H Hd vs Q ex da k => by
  cases da with
  | cons d1 d2 => cases d2; cases d1 with | lst hs ha => exact .inl ⟨_, _, rfl, .inl (ex_l ex hs), by rw [ha.length]; exact k _ _ H Hd Step.refl ex (.int _) q⟩
theorem cd_lenT {ds : List D} (q : R (.int ds.length)) : CD K (rLenD K) [.tuple ds] R := fun H Hd vs Q ex da k => by
  cases da with
  | cons d1 d2 => cases d2; cases d1 with | tup hs ha => exact .inl ⟨_, _, rfl, .inr (ex_t ex hs), by rw [ha.length]; exact k _ _ H Hd Step.refl ex (.int _) q⟩
theorem cd_lenS {z : Str} (hz : z.length ≤ sizeLine) (q : R (.int z.length)) : CD K (rLenD K) [.str z] R := fun H Hd vs Q ex da k => by
  cases da with
  | cons d1 d2 => cases d2; cases d1; exact .inr ⟨z, rfl, hz, k _ _ H Hd Step.refl ex (.int _) q⟩
/-- tuple(xs): the same tuple, or a new one -/
def rTupD (K : Fg) : List V → Hp → VK → Prop := fun xs H Q => ∃ p ys, xs = [.ref p] ∧ ((SqL K H p ys ∧ ∀ l, H l = none → Q (.ref l) (upd H l (.tup ys))) ∨ (SqT K H p ys ∧ Q (.ref p) H))
theorem cd_tupL {ds : List D} (q : R (.tuple ds)) : CD K (rTupD K) [.list ds] R := fun H Hd vs Q ex da k => by
  cases da with
  | cons d1 d2 =>
    cases d2
    cases d1 with
    | lst hs ha => exact ⟨_, _, rfl, .inl ⟨ex_l ex hs, fun l hl => by
      obtain ⟨s1, e1, d1⟩ := tupNew ex hl ha
      exact k _ _ _ _ s1 e1 d1 q⟩⟩
theorem cd_tupT {ds : List D} (q : R (.tuple ds)) : CD K (rTupD K) [.tuple ds] R := fun H Hd vs Q ex da k => by
  cases da with
  | cons d1 d2 =>
    cases d2
    cases d1 with
    | tup hs ha => exact ⟨_, _, rfl, .inr ⟨ex_t ex hs, k _ _ H Hd Step.refl ex (.tup hs ha) q⟩⟩
def rLstD (K : Fg) : List V → Hp → VK → Prop := fun xs H Q => ∃ p ys, xs = [.ref p] ∧ (SqL K H p ys ∨ SqT K H p ys) ∧ ∀ l, H l = none → Q (.ref l) (upd H l (.lst ys))
theorem cl_lstL {ds : List D} (q : RL ds) : CL K (rLstD K) [.list ds] RL := fun H Hd vs Q ex da k => by
  cases da with
  | cons d1 d2 => cases d2; cases d1 with | lst hs ha => exact ⟨_, _, rfl, .inl (ex_l ex hs), fun l hl => k l _ _ hl ha q⟩
theorem cl_lstT {ds : List D} (q : RL ds) : CL K (rLstD K) [.tuple ds] RL := fun H Hd vs Q ex da k => by
  cases da with
  | cons d1 d2 => cases d2; cases d1 with | tup hs ha => exact ⟨_, _, rfl, .inr (ex_t ex hs), fun l hl => k l _ _ hl ha q⟩
theorem dpa_map_int {H : Hp} : ∀ {vs : List V} {ns : List Int}, DpAll K H vs (ns.map .int) → vs = ns.map V.int
  | [], [], h => rfl
  | [], n :: ns, h => by cases h
  | v :: vs, [], h => by cases h
  | v :: vs, n :: ns, h => by
    cases h with
    | cons h1 h2 => cases h1; rw [dpa_map_int h2]; rfl
theorem dpa_map_bl {H : Hp} : ∀ {vs : List V} {ns : List Bool}, DpAll K H vs (ns.map .bool) → vs = ns.map V.bl
  | [], [], h => rfl
  | [], n :: ns, h => by cases h
  | v :: vs, [], h => by cases h
  | v :: vs, n :: ns, h => by
    cases h with
    | cons h1 h2 => cases h1; rw [dpa_map_bl h2]; rfl
theorem cd_maxL {ns : List Int} (h0 : 0 < ns.length) (q : ∀ m, m ∈ ns → (∀ y, y ∈ ns → y ≤ m) → R (.int m)) : CD K (rMax K) [.list (ns.map .int)] R := fun H Hd vs Q ex da k => by
  cases da with
  | cons d1 d2 => cases d2; cases d1 with | lst hs ha => exact ⟨_, ns, rfl, by rw [← dpa_map_int ha]; exact ex_l ex hs, h0, fun m h1 h2 => k _ _ H Hd Step.refl ex (.int _) (q m h1 h2)⟩
theorem cd_minL {ns : List Int} (h0 : 0 < ns.length) (q : ∀ m, m ∈ ns → (∀ y, y ∈ ns → m ≤ y) → R (.int m)) : CD K (rMin K) [.list (ns.map .int)] R := fun H Hd vs Q ex da k => by
  cases da with
  | cons d1 d2 => cases d2; cases d1 with | lst hs ha => exact ⟨_, ns, rfl, by rw [← dpa_map_int ha]; exact ex_l ex hs, h0, fun m h1 h2 => k _ _ H Hd Step.refl ex (.int _) (q m h1 h2)⟩
theorem cd_sum {ns : List Int} (q : R (.int ns.sum)) : CD K (rSum K) [.list (ns.map .int)] R := fun H Hd vs Q ex da k => by
  cases da with
  | cons d1 d2 => cases d2; cases d1 with | lst hs ha => exact ⟨_, ns, rfl, by rw [← dpa_map_int ha]; exact ex_l ex hs, k _ _ H Hd Step.refl ex (.int _) q⟩
theorem cd_all {bs : List Bool} (q : R (.bool (bs.all id))) : CD K (rAll K) [.list (bs.map .bool)] R := fun H Hd vs Q ex da k => by
  cases da with
  | cons d1 d2 => cases d2; cases d1 with | lst hs ha => exact ⟨_, bs, rfl, by rw [← dpa_map_bl ha]; exact ex_l ex hs, k _ _ H Hd Step.refl ex (.bl _) q⟩
theorem cd_any {bs : List Bool} (q : R (.bool (bs.any id))) : CD K (rAny K) [.list (bs.map .bool)] R := fun H Hd vs Q ex da k => by
  cases da with
  | cons d1 d2 => cases d2; cases d1 with | lst hs ha => exact ⟨_, bs, rfl, by rw [← dpa_map_bl ha]; exact ex_l ex hs, k _ _ H Hd Step.refl ex (.bl _) q⟩
/-! isinstance of built-in kinds -/
def tyD : D → String
  | .none => "NoneType"
  | .bool _ => "bool"
  | .int _ => "int"
  | .str _ => "str"
  | .list _ => "list"
  | .tuple _ => "tuple"
  | .dict _ => "dict"
theorem tyx_of {H : Hp} {v : V} (h : Dp K H v x) : TyX K H v (.type (tyD x)) := by
  cases h with
  | non => exact .base .non
  | bl b => exact .base (.bl b)
  | int i => exact .base (.int i)
  | str z => exact .base (.str z)
  | lst hs ha =>
    rcases hs with (hs | ⟨o, hs⟩) | ⟨o, its, n, hk, hc, _⟩
    · exact .base (.lst hs)
    · exact .base (.frz hs)
    · exact .kList hk hc
  | tup hs ha =>
    rcases hs with (hs | ⟨o, hs⟩) | ⟨o, its, n, hk, hc, _⟩
    · exact .base (.tup hs)
    · exact .fTuple hs
    · exact .kTuple hk hc
  | dic h0 hs hf =>
    rcases hs with hs | ⟨o, hs⟩
    · exact .base (.dK hs)
    · exact .fDict hs
def isD (n : String) (d : D) : Bool := n == tyD d || (n == "int" && tyD d == "bool") || n == "object"
end
section
variable {K : Fg} {δ : Dl} {M M' : Ms} {R : D → Ms → Prop} {RL : List D → Ms → Prop} {te ta tb : TE} {tl th : TO}
/-- isinstance(e, T), T a built-in kind -/
theorem we_isi {n : String} {f : D → Bool} (hf : ∀ d, kitB (tyD d) n = some (f d)) (h : WE K te δ M fun d M1 => R (.bool (f d)) M1) : WE K (tCB (rIsi K) (tCons te (tCons (tC (.ty n)) tNil))) δ M R := fun σ H Hd ls Q a k =>
  h σ H Hd ls _ a fun v d M1 H1 Hd1 a1 s1 dv q => ⟨v, .ty n, _, _, _, rfl, .ty n, tyx_of (dv.up a1.sub), kit_ty (hf d), k _ _ M1 H1 Hd1 a1 s1 (.bl _) q⟩
/-! slices -/
def WO (K : Fg) (t : TO) (δ : Dl) (M : Ms) (R : Option Int → Ms → Prop) : Prop :=
  ∀ σ H Hd ls Q, Sta K δ M σ H Hd ls → (∀ o M' H' Hd', Sta K δ M' σ H' Hd' ls → Step H Hd ls H' Hd' → R o M' → Q o H') → t σ H Q
theorem wo_none {RO : Option Int → Ms → Prop} (q : RO none M) : WO K tNoPart δ M RO := fun σ H Hd ls Q a k => k none M H Hd a Step.refl q
theorem wo_some {RO : Option Int → Ms → Prop} (h : WE K te δ M fun d M1 => ∃ i, d = .int i ∧ RO (some i) M1) : WO K (tPart te) δ M RO := fun σ H Hd ls Q a k =>
  h σ H Hd ls _ a fun v d M1 H1 Hd1 a1 s1 dv ⟨i, e, q⟩ => by
    subst e; cases dv
    exact ⟨i, rfl, k _ M1 H1 Hd1 a1 s1 q⟩
def cutD (xs : List D) (lo hi : Option Int) : List D := (xs.drop (HT.sIx xs.length 0 lo)).take (HT.sIx xs.length xs.length hi - HT.sIx xs.length 0 lo)
theorem cut_up {H : Hp} {vs : List V} {ds : List D} (h : DpAll K H vs ds) (lo hi : Option Int) : DpAll K H (cutV vs lo hi) (cutD ds lo hi) := by
  unfold cutV cutD
  rw [h.length]
  exact (h.drop _).take _
theorem wl_slL (h : WE K te δ M fun d M1 => WO K tl δ M1 fun lo M2 => WO K th δ M2 fun hi M3 => ∃ ds, d = .list ds ∧ RL (cutD ds lo hi) M3) : WL K (tSl (rSlL K) te tl th) δ M RL := fun σ H Hd ls Q a k =>
  h σ H Hd ls _ a fun v d M1 H1 Hd1 a1 s1 dv h1 => h1 σ H1 Hd1 ls _ a1 fun lo M2 H2 Hd2 a2 s2 h2 => h2 σ H2 Hd2 ls _ a2 fun hi M3 H3 Hd3 a3 s3 h3 => by
    obtain ⟨ds, rfl, q⟩ := h3
    have s13 := (s1.trans s2).trans s3
    have dv3 := dv.up (s2.ext.trans s3.ext)
    cases dv3 with
    | lst hs ha =>
      refine ⟨_, _, rfl, ex_l a3.sub hs, fun p hp => ?_⟩
      refine k p _ _ M3 (upd H3 p _) Hd3 (a3.up (step_new hp) fun b o e => ?_) (s13.trans (step_new hp).all) ?_ ?_ (not_ls a3 hp) upd_same (cut_up ha lo hi) q
      · have := a3.sub b o e
        rw [upd_ne (ne_of_none this hp)]; exact this
      · cases e : H p with
        | none => rfl
        | some o => exact absurd hp (s13.there p (by rw [e]; simp))
      · cases e : Hd3 p with
        | none => rfl
        | some o => rw [a3.sub p o e] at hp; cases hp
/-- a slice of a tuple that is not the whole -/
theorem we_slT (h : WE K te δ M fun d M1 => WO K tl δ M1 fun lo M2 => WO K th δ M2 fun hi M3 => ∃ ds, d = .tuple ds ∧ R (.tuple (cutD ds lo hi)) M3)
    (hw : ∀ (H : Hp) (x : V) (lo hi : Option Int) (ds : List D) (Q : VK), (∃ a xs, x = .ref a ∧ SqT K H a xs ∧ DpAll K H xs ds ∧ (cutV xs lo hi = xs → Q (.ref a) H) ∧ (∀ p, H p = none → Q (.ref p) (upd H p (.tup (cutV xs lo hi))))) → rSlT K x lo hi H Q) : WE K (tSl (rSlT K) te tl th) δ M R := fun σ H Hd ls Q a k =>
  h σ H Hd ls _ a fun v d M1 H1 Hd1 a1 s1 dv h1 => h1 σ H1 Hd1 ls _ a1 fun lo M2 H2 Hd2 a2 s2 h2 => h2 σ H2 Hd2 ls _ a2 fun hi M3 H3 Hd3 a3 s3 h3 => by
    obtain ⟨ds, rfl, q⟩ := h3
    have s13 := (s1.trans s2).trans s3
    have dv3 := dv.up (s2.ext.trans s3.ext)
    cases dv3 with
    | tup hs ha =>
      refine hw H3 _ lo hi ds Q ⟨_, _, rfl, ex_t a3.sub hs, ha.up a3.sub, fun e => ?_, fun p hp => ?_⟩
      · refine k _ _ M3 H3 Hd3 a3 s13 (.tup hs (e ▸ cut_up ha lo hi)) q
      · obtain ⟨s4, e4, d4⟩ := tupNew a3.sub hp (cut_up ha lo hi)
        exact k _ _ M3 _ _ (a3.up s4 e4) (s13.trans s4.all) d4 q
end
end PW

set_option Elab.async false
set_option linter.all false
set_option maxRecDepth 100000
set_option maxHeartbeats 2000000
namespace PW
open PySem L2 Evl PySem.Spec PyProof.Rows

/-! ### defs that are functions of data -/
def pur (n : Nat) (dom : List D → Prop) (fn : List D → D) : FS := fun cs M R => ∃ ds, cs = ds.map C.dat ∧ ds.length = n ∧ M = [] ∧ dom ds ∧ R (fn ds) []
theorem fg_pur {P : Program} {w : World} {K : Fg} {mg : Str → Option Value} {base : Heap} {x qual : Str} {st : Stmt} {f : Addr} {fd : FuncData} {N ps : List Str} {k : Nat} {dom : List D → Prop} {fn : List D → D} (F : Fun K x qual st f fd) (sc : FnScope N ps (defScope st))
    (body : ∀ (cdv : Value) (A : Around) (outer : List Env) (s : Shared) (H : Hp) (E : XK), Room k (A.deeper (envOfC qual (defScope st) s.heap.objs.size f cdv)) → (A.deeper (envOfC qual (defScope st) s.heap.objs.size f cdv)).guards = some [] →
      ∃ t, PSs (cxOf CX0 P w K mg base N qual (defScope st) f cdv A outer s H E).nox (defBody st) t ∧
        ∀ ds, ds.length = ps.length → dom ds → WB K (Own 0) t (slots N (ds.map C.dat)) [] { nx := fun _ _ => fn ds = .none, rt := fun d _ => d = fn ds }) : FnG P w K mg base (k + 1) f fd ps (SpF K (pur ps.length dom fn)) := by
  refine fgok F sc (fun cs M R h => ?_) (fun cdv A outer s H E hr hg => ?_)
  · obtain ⟨ds, rfl, hl, _⟩ := h
    rw [List.length_map]; exact hl
  · obtain ⟨t, d, hb⟩ := body cdv A outer s H E hr hg
    refine ⟨t, d, fun cs M R h => ?_⟩
    obtain ⟨ds, rfl, hl, rfl, hd, hR⟩ := h
    refine wb_mono (hb ds hl hd) (fun δ M' q => ?_) (fun d M' q => ?_) (fun _ _ q => q) (fun _ _ q => q)
    · show R .none _
      have q' : fn ds = .none := q
      rw [← q']; exact hR
    · have q' : d = fn ds := q
      rw [q']; exact hR
section
variable {K : Fg} {δ : Dl} {M M' : Ms} {R : D → Ms → Prop} {ts : TA} {E : XK}
theorem we_pur {n : Nat} {dom : List D → Prop} {fn : List D → D} (h : WD K ts δ M fun ds M1 => ds.length = n ∧ dom ds ∧ R (fn ds) M1) : WE K (tCall (SpF K (pur n dom fn)) [] E ts) δ M R :=
  we_call fun σ H Hd ls Q a k => h σ H Hd ls Q a fun vs ds M1 H1 Hd1 a1 s1 da q => k vs ds M1 H1 Hd1 a1 s1 da ⟨ds, rfl, q.1, rfl, q.2.1, q.2.2⟩
theorem len_ok {n : Nat} (h : Nat.ble n 100000 = true) : n ≤ sizeLine := by rw [sizeLine_eq]; have := Nat.le_of_ble_eq_true h; omega
end
/-! ### kinds -/
def dInt : D → Bool
  | .int _ => true
  | .bool _ => true
  | _ => false
def dBool : D → Bool
  | .bool _ => true
  | _ => false
def dStr : D → Bool
  | .str _ => true
  | _ => false
def dTup : D → Bool
  | .tuple _ => true
  | _ => false
def dLst : D → Bool
  | .list _ => true
  | _ => false
theorem kit_int : ∀ d : D, kitB (tyD d) "int" = some (dInt d) := fun d => by cases d <;> (simp only [tyD, dInt]; decide +kernel)
theorem kit_bool : ∀ d : D, kitB (tyD d) "bool" = some (dBool d) := fun d => by cases d <;> (simp only [tyD, dBool]; decide +kernel)
theorem kit_str : ∀ d : D, kitB (tyD d) "str" = some (dStr d) := fun d => by cases d <;> (simp only [tyD, dStr]; decide +kernel)
theorem kit_tup : ∀ d : D, kitB (tyD d) "tuple" = some (dTup d) := fun d => by cases d <;> (simp only [tyD, dTup]; decide +kernel)
theorem kit_lst : ∀ d : D, kitB (tyD d) "list" = some (dLst d) := fun d => by cases d <;> (simp only [tyD, dLst]; decide +kernel)
end PW

set_option Elab.async false
set_option linter.all false
set_option maxRecDepth 100000
set_option maxHeartbeats 2000000
namespace PW
open PySem L2 Evl PySem.Spec PyProof.Rows
section
variable {K : Fg} {n : Ent → Prop} {δ : Dl} {M M' : Ms} {R : D → Ms → Prop} {RL : List D → Ms → Prop} {RB : Bool → Ms → Prop} {P : Po} {te ta tb tc : TE} {ts tr : TA} {t u : TT} {sa sb : TS} {r r' : R2} {rc : List V → Hp → VK → Prop}
/-! ### ways by implications -/
theorem vb_if (h : WT K t δ M fun b M1 => (b = true → WB K n sa δ M1 P) ∧ (b = false → WB K n sb δ M1 P)) : WB K n (tIfS t sa sb) δ M P :=
  wb_if (wt_mono h fun b M1 q => by cases b with | true => exact q.1 rfl | false => exact q.2 rfl)
theorem vt_and (h : WT K t δ M fun b M1 => (b = true → WT K u δ M1 RB) ∧ (b = false → RB false M1)) : WT K (tAnd t u) δ M RB :=
  wt_and (wt_mono h fun b M1 q => by cases b with | true => exact q.1 rfl | false => exact q.2 rfl)
theorem vt_or (h : WT K t δ M fun b M1 => (b = true → RB true M1) ∧ (b = false → WT K u δ M1 RB)) : WT K (tOr t u) δ M RB :=
  wt_or (wt_mono h fun b M1 q => by cases b with | true => exact q.1 rfl | false => exact q.2 rfl)
theorem ve_if (h : WT K t δ M fun b M1 => (b = true → WE K ta δ M1 R) ∧ (b = false → WE K tb δ M1 R)) : WE K (tIf t ta tb) δ M R :=
  we_if (wt_mono h fun b M1 q => by cases b with | true => exact q.1 rfl | false => exact q.2 rfl)
theorem ve_and (h : WE K ta δ M fun x M1 => ∃ c, x = .bool c ∧ (c = true → WE K tb δ M1 R) ∧ (c = false → R (.bool false) M1)) : WE K (tAndV ta tb) δ M R :=
  we_andV (we_mono h fun x M1 q => by
    obtain ⟨c, e, q1, q2⟩ := q
    exact ⟨c, e, by cases c with | true => exact q1 rfl | false => exact q2 rfl⟩)
theorem ve_or (h : WE K ta δ M fun x M1 => ∃ c, x = .bool c ∧ (c = true → R (.bool true) M1) ∧ (c = false → WE K tb δ M1 R)) : WE K (tOrV ta tb) δ M R :=
  we_orV (we_mono h fun x M1 q => by
    obtain ⟨c, e, q1, q2⟩ := q
    exact ⟨c, e, by cases c with | true => exact q1 rfl | false => exact q2 rfl⟩)
theorem ve_not (h : WE K ta δ M fun x M1 => ∃ c, x = .bool c ∧ R (.bool (!c)) M1) : WE K (tNotV ta) δ M R := we_notV h
theorem wt_testB (h : WE K te δ M fun d M1 => ∃ b, d = .bool b ∧ RB b M1) : WT K (tTest te) δ M RB := wt_test h
/-- a test of a bool -/
theorem wt_truB (h : WE K te δ M fun d M1 => ∃ b, d = .bool b ∧ RB b M1) : WT K (fun σ H Q => te σ H fun x H' => ∃ k, TruV K x H' k ∧ Q k H') δ M RB :=
  wt_tru (we_mono h fun d M1 q => by
    obtain ⟨b, rfl, q⟩ := q
    exact ⟨(fun x e => nomatch e), (fun x e => nomatch e), q⟩)
/-- a pure part, once for all: te gives d and changes nothing -/
def Gv (K : Fg) (te : TE) (δ : Dl) (M : Ms) (d : D) : Prop := WE K te δ M fun d' M' => d' = d ∧ M' = M
theorem we_gv {d : D} (h : Gv K te δ M d) (q : R d M) : WE K te δ M R := we_mono h fun d' M' ⟨e1, e2⟩ => by rw [e1, e2]; exact q
theorem gv {d : D} (h : WE K te δ M fun d' M' => d' = d ∧ M' = M) : Gv K te δ M d := h
def Tv (K : Fg) (t : TT) (δ : Dl) (M : Ms) (b : Bool) : Prop := WT K t δ M fun b' M' => b' = b ∧ M' = M
theorem wt_tv {b : Bool} (h : Tv K t δ M b) (q : RB b M) : WT K t δ M RB := wt_mono h fun d' M' ⟨e1, e2⟩ => by rw [e1, e2]; exact q
end
theorem u65 {k : Nat} {A : Around} {n : Nat} (hr : Room k A) (hn : n ≤ 65 := by decide) : A.units + n < cLine := by have := hr.un; omega
theorem nox_K {CX : CXT} {P : Program} {w : World} {K : PySem.W.Frag} {mg : Str → Option Value} {base : Heap} {N : List Str} {qual : Str} {scope : Scope} {f : Addr} {cd : Value} {A : Around} {outer : List Env} {s : Shared} {H : Hp} {E : XK} : (cxOf CX P w K mg base N qual scope f cd A outer s H E).nox.K = K := rfl
theorem cxo_K {CX : CXT} {P : Program} {w : World} {K : PySem.W.Frag} {mg : Str → Option Value} {base : Heap} {N : List Str} {qual : Str} {scope : Scope} {f : Addr} {cd : Value} {A : Around} {outer : List Env} {s : Shared} {H : Hp} {E : XK} : (cxOf CX P w K mg base N qual scope f cd A outer s H E).K = K := rfl
end PW

set_option Elab.async false
set_option linter.all false
set_option maxRecDepth 100000
set_option maxHeartbeats 2000000
namespace PW
open PySem L2 Evl PySem.Spec PyProof.Rows
section
variable {K : Fg} {R : D → Prop} {RL : List D → Prop} {x y : D}
theorem od_catA {xs ys : List D} (hz : xs.length + ys.length ≤ sizeLine) (q : R (.tuple (xs ++ ys))) : OD K (rCatA K) (.tuple xs) (.tuple ys) R := fun H Hd v w Q ex dx dy k => by
  cases dx with
  | tup h1 a1 =>
    cases dy with
    | tup h2 a2 =>
      refine ⟨_, _, _, _, rfl, rfl, ex_t ex h1, ex_t ex h2, by rw [a1.length, a2.length]; exact hz, fun e => ?_, fun e e2 => ?_, fun e e2 p hp => ?_⟩
      · have : xs = [] := by have := a1.length; rw [e] at this; exact List.length_eq_zero_iff.mp this.symm
        subst this
        exact k _ _ H Hd Step.refl ex (.tup h2 a2) q
      · have : ys = [] := by have := a2.length; rw [e2] at this; exact List.length_eq_zero_iff.mp this.symm
        subst this
        rw [List.append_nil] at q
        exact k _ _ H Hd Step.refl ex (.tup h1 a1) q
      · obtain ⟨s1, e1, d1⟩ := tupNew ex hp (a1.app a2)
        exact k _ _ _ _ s1 e1 d1 q
theorem od_isB {a b : Bool} (q : R (.bool (decide (a = b)))) : OD K rIsB (.bool a) (.bool b) R := fun H Hd v w Q ex dx dy k => by
  cases dx; cases dy
  exact ⟨a, b, rfl, rfl, k _ _ H Hd Step.refl ex (.bl _) q⟩
theorem od_notB {a b : Bool} (q : R (.bool (!decide (a = b)))) : OD K rNotB (.bool a) (.bool b) R := fun H Hd v w Q ex dx dy k => by
  cases dx; cases dy
  exact ⟨a, b, rfl, rfl, k _ _ H Hd Step.refl ex (.bl _) q⟩
end
theorem cutV_whole {xs : List V} {lo hi : Option Int} (h : HT.sIx xs.length 0 lo = 0 ∧ HT.sIx xs.length xs.length hi = xs.length) : cutV xs lo hi = xs := by
  unfold cutV
  rw [h.1, h.2, List.drop_zero, Nat.sub_zero, List.take_length]
section
variable {K : Fg} {δ : Dl} {M M' : Ms} {R : D → Ms → Prop} {RL : List D → Ms → Prop} {te ta tb : TE} {tl th : TO}
/-- a slice of a tuple -/
theorem we_slA (h : WE K te δ M fun d M1 => WO K tl δ M1 fun lo M2 => WO K th δ M2 fun hi M3 => ∃ ds, d = .tuple ds ∧ R (.tuple (cutD ds lo hi)) M3) : WE K (tSl (rSlA K) te tl th) δ M R := fun σ H Hd ls Q a k =>
  h σ H Hd ls _ a fun v d M1 H1 Hd1 a1 s1 dv h1 => h1 σ H1 Hd1 ls _ a1 fun lo M2 H2 Hd2 a2 s2 h2 => h2 σ H2 Hd2 ls _ a2 fun hi M3 H3 Hd3 a3 s3 h3 => by
    obtain ⟨ds, rfl, q⟩ := h3
    have s13 := (s1.trans s2).trans s3
    have dv3 := dv.up (s2.ext.trans s3.ext)
    cases dv3 with
    | tup hs ha =>
      refine ⟨_, _, rfl, ex_t a3.sub hs, fun e => ?_, fun _ p hp => ?_⟩
      · have c := cut_up ha lo hi
        rw [cutV_whole e] at c
        exact k _ _ M3 H3 Hd3 a3 s13 (.tup hs c) q
      · obtain ⟨s4, e4, d4⟩ := tupNew a3.sub hp (cut_up ha lo hi)
        exact k _ _ M3 _ _ (a3.up s4 e4) (s13.trans s4.all) d4 q
/-- a list backwards -/
theorem wl_rev (h : WE K te δ M fun d M1 => ∃ ds, d = .list ds ∧ RL ds.reverse M1) : WL K (tRevL K te) δ M RL := fun σ H Hd ls Q a k =>
  h σ H Hd ls _ a fun v d M1 H1 Hd1 a1 s1 dv h1 => by
    obtain ⟨ds, rfl, q⟩ := h1
    cases dv with
    | lst hs ha =>
      refine ⟨_, _, rfl, ex_l a1.sub hs, fun p hp => ?_⟩
      refine k p _ _ M1 (upd H1 p _) Hd1 (a1.up (step_new hp) fun b o e => ?_) (s1.trans (step_new hp).all) ?_ ?_ (not_ls a1 hp) upd_same ha.rev q
      · have := a1.sub b o e
        rw [upd_ne (ne_of_none this hp)]; exact this
      · cases e : H p with
        | none => rfl
        | some o => exact absurd hp (s1.there p (by rw [e]; simp))
      · cases e : Hd1 p with
        | none => rfl
        | some o => rw [a1.sub p o e] at hp; cases hp
/-- 'sl'.index(x), x there -/
def rSix : V → List V → Hp → VK → Prop := fun x xs H Q => ∃ a b i rest, x = .str a ∧ xs = [.str b] ∧ Builtin.Str.occurrences a b 0 a.length 1 = i :: rest ∧ Q (.int (i : Nat)) H
theorem we_six (h : WE K ta δ M fun x M1 => ∃ a, x = .str a ∧ WE K tb δ M1 fun y M2 => ∃ b i rest, y = .str b ∧ Builtin.Str.occurrences a b 0 a.length 1 = i :: rest ∧ R (.int (i : Nat)) M2) : WE K (tM1 rSix ta tb) δ M R := fun σ H Hd ls Q a k =>
  h σ H Hd ls _ a fun v x M1 H1 Hd1 a1 s1 dv h1 => by
    obtain ⟨p, rfl, h1⟩ := h1
    cases dv
    refine ⟨⟨p, rfl⟩, h1 σ H1 Hd1 ls _ a1 fun w y M2 H2 Hd2 a2 s2 dw h2 => ?_⟩
    obtain ⟨q, i, rest, rfl, e, r⟩ := h2
    cases dw
    exact ⟨p, q, i, rest, rfl, rfl, e, k _ _ M2 H2 Hd2 a2 (s1.trans s2) (.int _) r⟩
end
end PW

set_option Elab.async false
set_option linter.all false
set_option maxRecDepth 100000
set_option maxHeartbeats 2000000
namespace PW
open PySem L2 Evl PySem.Spec PyProof.Rows
/-! ### reading what is owned -/
/-- an owned list, seen as data for the time being -/
def seen (δ : Dl) (M : Ms) : Dl := δ.map fun o => match o with
  | some (.own k) => (match M[k]? with
    | some (.lst ds) => some (.dat (.list ds))
    | _ => none)
  | x => x
theorem seen_at {δ : Dl} {M : Ms} {i : Nat} {c : C} (h : (seen δ M)[i]? = some (some c)) : (∃ d, c = .dat d ∧ δ[i]? = some (some (.dat d))) ∨ ∃ k ds, δ[i]? = some (some (.own k)) ∧ M[k]? = some (.lst ds) ∧ c = .dat (.list ds) := by
  unfold seen at h
  rw [List.getElem?_map] at h
  cases e : δ[i]? with
  | none => rw [e] at h; cases h
  | some o =>
    rw [e] at h
    simp only [Option.map_some, Option.some.injEq] at h
    cases o with
    | none => cases h
    | some x =>
      cases x with
      | dat d => simp only at h; cases h; exact .inl ⟨d, rfl, rfl⟩
      | own k =>
        simp only at h
        cases em : M[k]? with
        | none => rw [em] at h; cases h
        | some m =>
          rw [em] at h
          cases m with
          | lst ds => cases h; exact .inr ⟨k, ds, rfl, em, rfl⟩
          | dic _ => cases h
          | gone => cases h
/-- all that is owned, laid beside the data -/
def plus (H Hd : Hp) (ls : List Addr) : Hp := fun a => if a ∈ ls then H a else Hd a
section
variable {K : Fg} {δ : Dl} {M M' : Ms} {σ : L2.St} {H Hd : Hp} {ls : List Addr}
theorem plus_ex (a : Sta K δ M σ H Hd ls) : Ex Hd (plus H Hd ls) := fun x o h => by
  unfold plus
  split
  · exact a.sub x o h
  · exact h
theorem plus_sub (a : Sta K δ M σ H Hd ls) : Ex (plus H Hd ls) H := fun x o h => by
  unfold plus at h
  split at h
  · exact h
  · exact a.sub x o h
theorem sta_seen (a : Sta K δ M σ H Hd ls) : Sta K (seen δ M) [] σ H (plus H Hd ls) [] := by
  refine ⟨plus_sub a, rfl, List.nodup_nil, fun k l m h => by simp at h, by rw [a.dlen]; simp [seen], fun i d h => ?_, fun i k h => ?_⟩
  · rcases seen_at h with ⟨d', e, h1⟩ | ⟨k, ds, h1, h2, e⟩
    · cases e
      obtain ⟨v, hv, dv⟩ := a.dat i d h1
      exact ⟨v, hv, dv.up (plus_ex a)⟩
    · cases e
      obtain ⟨l, hl, hv⟩ := a.own i k h1
      obtain ⟨_, xs, hx, da⟩ := a.obj k l _ hl h2
      refine ⟨_, hv, .lst (.inl (.inl ?_)) (da.up (plus_ex a))⟩
      show plus H Hd ls l = _
      unfold plus
      rw [if_pos (List.mem_of_getElem? hl)]
      exact hx
  · rcases seen_at h with ⟨d', e, h1⟩ | ⟨k, ds, h1, h2, e⟩ <;> cases e
/-- behind a look: what was owned stands -/
theorem look_back (a : Sta K δ M σ H Hd ls) {H' Hp' : Hp} (s : Step H (plus H Hd ls) [] H' Hp') : Sta K δ M σ H' Hd ls ∧ Step H Hd ls H' Hd := by
  have keep : ∀ x o, H x = some o → H' x = some o := fun x o h => s.old x o h (by simp)
  refine ⟨⟨fun x o h => keep x o (a.sub x o h), a.mlen, a.nd, fun k l m h1 h2 => ?_, a.dlen, a.dat, a.own⟩, ⟨Ex.refl _, fun x o h _ => keep x o h, fun _ _ n => n, s.there⟩⟩
  have := a.obj k l m h1 h2
  cases m with
  | lst ds => obtain ⟨n, xs, hx, da⟩ := this; exact ⟨n, xs, keep _ _ hx, da⟩
  | dic ds => obtain ⟨n, xs, hx, hk, da⟩ := this; exact ⟨n, xs, keep _ _ hx, hk, da⟩
  | gone => exact this
theorem flat_dp {H' : Hp} {v : V} {d : D} (h : Dp K H v d) (f : flatD d = true) : Dp K H' v d := by
  cases h with
  | non => exact .non
  | bl b => exact .bl b
  | int i => exact .int i
  | str x => exact .str x
  | lst _ _ => cases f
  | tup _ _ => cases f
  | dic _ _ => cases f
theorem flat_dpa {H' : Hp} : ∀ {vs : List V} {ds : List D}, DpAll K H vs ds → ds.all flatD = true → DpAll K H' vs ds
  | [], _, h, f => by cases h; exact .nil
  | v :: vs, _, h, f => by
    cases h with
    | cons h1 h2 =>
      rw [List.all_cons, Bool.and_eq_true] at f
      exact .cons (flat_dp h1 f.1) (flat_dpa h2 f.2)
variable {R : D → Ms → Prop} {RL : List D → Ms → Prop} {RB : Bool → Ms → Prop} {te : TE} {t : TT}
theorem we_look (h : WE K te (seen δ M) [] fun d _ => flatD d = true ∧ R d M) : WE K te δ M R := fun σ H Hd ls Q a k =>
  h σ H (plus H Hd ls) [] Q (sta_seen a) fun v d M' H' Hd' a' s dv q => by
    obtain ⟨a2, s2⟩ := look_back a s
    exact k v d M H' Hd a2 s2 (flat_dp dv q.1) q.2
theorem wt_look (h : WT K t (seen δ M) [] fun b _ => RB b M) : WT K t δ M RB := fun σ H Hd ls Q a k =>
  h σ H (plus H Hd ls) [] Q (sta_seen a) fun b M' H' Hd' a' s q => by
    obtain ⟨a2, s2⟩ := look_back a s
    exact k b M H' Hd a2 s2 q
theorem wl_look (h : WL K te (seen δ M) [] fun ds _ => ds.all flatD = true ∧ RL ds M) : WL K te δ M RL := fun σ H Hd ls Q a k =>
  h σ H (plus H Hd ls) [] Q (sta_seen a) fun p xs ds M' H' Hd' a' s h0 h1 h2 h3 h4 q => by
    obtain ⟨a2, s2⟩ := look_back a s
    refine k p xs ds M H' Hd a2 s2 h0 ?_ (not_ls a h0) h3 (flat_dpa h4 q.1) q.2
    cases e : Hd p with
    | none => rfl
    | some o => rw [a.sub p o e] at h0; cases h0
/-- a tuple of flat things -/
theorem we_lookT (h : WE K te (seen δ M) [] fun d _ => ∃ ds, d = .tuple ds ∧ ds.all flatD = true ∧ R (.tuple ds) M) : WE K te δ M R := fun σ H Hd ls Q a k =>
  h σ H (plus H Hd ls) [] Q (sta_seen a) fun v d M' H' Hd' a' s dv q => by
    obtain ⟨ds, rfl, f, q⟩ := q
    obtain ⟨a2, s2⟩ := look_back a s
    cases dv with
    | tup hs ha =>
      rename_i p xs
      have fin := flat_dpa (H' := Hd) ha f
      rcases hs with hs | hs
      · -- tracked: it is new, or it stood among the data
        have hp : Hd' p ≠ none := by rcases hs with z | ⟨o, z⟩ <;> rw [z] <;> simp
        by_cases hd : Hd p = none
        · by_cases hm : p ∈ ls
          · -- an owned object is no tuple
            exfalso
            obtain ⟨j, hj, ej⟩ := List.getElem_of_mem hm
            have hjM : j < M.length := by rw [← a.mlen]; exact hj
            have ob := a.obj j p M[j] (by rw [List.getElem?_eq_getElem hj, ej]) (List.getElem?_eq_getElem hjM)
            have hpl : plus H Hd ls p = H p := by unfold plus; rw [if_pos hm]
            generalize M[j] = m at ob
            cases m with
            | lst es =>
              obtain ⟨_, ys, hy, _⟩ := ob
              have z := s.ext p _ (by rw [hpl]; exact hy)
              rcases hs with w | ⟨o, w⟩ <;> (rw [z] at w; cases w)
            | dic es =>
              obtain ⟨_, ys, hy, _⟩ := ob
              have z := s.ext p _ (by rw [hpl]; exact hy)
              rcases hs with w | ⟨o, w⟩ <;> (rw [z] at w; cases w)
            | gone => exact ob hd
          · have hpl : plus H Hd ls p = none := by unfold plus; rw [if_neg hm]; exact hd
            have hH : H p = none := by
              cases hh : H p with
              | none => rfl
              | some o => exact absurd (s.new p (by rw [hh]; simp) hpl) hp
            have ex : Ex Hd (fun b => if b = p then Hd' p else Hd b) := fun b o e => by
              have : b ≠ p := fun z => by rw [z, hd] at e; cases e
              show (if b = p then Hd' p else Hd b) = _
              rw [if_neg this]; exact e
            have sq : SqT K (fun b => if b = p then Hd' p else Hd b) p xs := by
              rcases hs with z | ⟨o, z⟩
              · exact .inl (.inl (by show (if p = p then Hd' p else Hd p) = _; rw [if_pos rfl]; exact z))
              · exact .inl (.inr ⟨o, by show (if p = p then Hd' p else Hd p) = _; rw [if_pos rfl]; exact z⟩)
            refine k (.ref p) (.tuple ds) M H' (fun b => if b = p then Hd' p else Hd b) ⟨fun b o e => ?_, a2.mlen, a2.nd, fun j l m h1 h2 => ?_, a2.dlen, fun j z hz => ?_, a2.own⟩ ⟨ex, s2.old, fun b h1 h2 => ?_, s2.there⟩ (.tup sq (flat_dpa ha f)) q
            · have e' : (if b = p then Hd' p else Hd b) = some o := e
              by_cases hb : b = p
              · rw [if_pos hb] at e'; rw [hb]; exact a'.sub p o e'
              · rw [if_neg hb] at e'; exact a2.sub b o e'
            · have hl : l ≠ p := fun z => hm (z ▸ List.mem_of_getElem? h1)
              have := a2.obj j l m h1 h2
              have nn : ∀ u, Hd l = u → (fun b => if b = p then Hd' p else Hd b) l = u := fun u e => by show (if l = p then Hd' p else Hd l) = u; rw [if_neg hl]; exact e
              cases m with
              | lst es => obtain ⟨z, ys, hy, hs⟩ := this; exact ⟨nn _ z, ys, hy, hs.up ex⟩
              | dic es => obtain ⟨z, ys, hy, hk, hs⟩ := this; exact ⟨nn _ z, ys, hy, hk, hs.up ex⟩
              | gone => exact fun z => this (by have z' : (if l = p then Hd' p else Hd l) = none := z; rw [if_neg hl] at z'; exact z')
            · obtain ⟨v, hv, dv⟩ := a2.dat j z hz
              exact ⟨v, hv, dv.up ex⟩
            · have : b ≠ p := fun z => h1 (z ▸ hH)
              show (if b = p then Hd' p else Hd b) = none
              rw [if_neg this]; exact h2
        · -- among the data
          obtain ⟨o, ho⟩ : ∃ o, Hd p = some o := by
            cases e : Hd p with
            | none => exact absurd e hd
            | some o => exact ⟨o, rfl⟩
          have z := s.ext p o (plus_ex a p o ho)
          have sq : SqT K Hd p xs := by
            rcases hs with w | ⟨ob, w⟩
            · rw [z] at w; cases w; exact .inl (.inl ho)
            · rw [z] at w; cases w; exact .inl (.inr ⟨ob, ho⟩)
          exact k (.ref p) (.tuple ds) M H' Hd a2 s2 (.tup sq fin) q
      · exact k (.ref p) (.tuple ds) M H' Hd a2 s2 (.tup (.inr hs) fin) q
end
end PW

set_option Elab.async false
set_option linter.all false
set_option maxRecDepth 100000
set_option maxHeartbeats 2000000
namespace PW
open PySem L2 Evl PySem.Spec PyProof.Rows
section
variable {K : Fg} {δ : Dl} {M M' : Ms} {R : D → Ms → Prop}
theorem we_ixO {i k : Nat} {j : Int} {ds : List D} {d : D} (ho : δ[i]? = some (some (.own k))) (hm : M[k]? = some (.lst ds)) (e : atI ds j = some d) (q : R d M) : WE K (tOp (rIx K) (tVar i) (tC (.int j))) δ M R := fun σ H Hd ls Q a kk => by
  obtain ⟨l, hl, hv⟩ := a.own i k ho
  obtain ⟨_, xs, hx, da⟩ := a.obj k l _ hl hm
  obtain ⟨u, hu, du⟩ := atI_up da e
  exact ⟨_, hv, .inl ⟨l, xs, j, u, rfl, rfl, SqL.of hx, hu, kk u d M H Hd a Step.refl du q⟩⟩
end
/-! words -/
@[simp] theorem w_s_l : ((Str.ofString "s") = (Str.ofString "l")) = False := eq_false (by decide +kernel)
@[simp] theorem w_s_turn : ((Str.ofString "s") = (Str.ofString "turn")) = False := eq_false (by decide +kernel)
@[simp] theorem w_s_stay : ((Str.ofString "s") = (Str.ofString "stay")) = False := eq_false (by decide +kernel)
@[simp] theorem w_s_none : ((Str.ofString "s") = (Str.ofString "none")) = False := eq_false (by decide +kernel)
@[simp] theorem w_s_press : ((Str.ofString "s") = (Str.ofString "press")) = False := eq_false (by decide +kernel)
@[simp] theorem w_s_held : ((Str.ofString "s") = (Str.ofString "held")) = False := eq_false (by decide +kernel)
@[simp] theorem w_l_s : ((Str.ofString "l") = (Str.ofString "s")) = False := eq_false (by decide +kernel)
@[simp] theorem w_l_turn : ((Str.ofString "l") = (Str.ofString "turn")) = False := eq_false (by decide +kernel)
@[simp] theorem w_l_stay : ((Str.ofString "l") = (Str.ofString "stay")) = False := eq_false (by decide +kernel)
@[simp] theorem w_l_none : ((Str.ofString "l") = (Str.ofString "none")) = False := eq_false (by decide +kernel)
@[simp] theorem w_l_press : ((Str.ofString "l") = (Str.ofString "press")) = False := eq_false (by decide +kernel)
@[simp] theorem w_l_held : ((Str.ofString "l") = (Str.ofString "held")) = False := eq_false (by decide +kernel)
@[simp] theorem w_turn_s : ((Str.ofString "turn") = (Str.ofString "s")) = False := eq_false (by decide +kernel)
@[simp] theorem w_turn_l : ((Str.ofString "turn") = (Str.ofString "l")) = False := eq_false (by decide +kernel)
@[simp] theorem w_turn_stay : ((Str.ofString "turn") = (Str.ofString "stay")) = False := eq_false (by decide +kernel)
@[simp] theorem w_turn_none : ((Str.ofString "turn") = (Str.ofString "none")) = False := eq_false (by decide +kernel)
@[simp] theorem w_turn_press : ((Str.ofString "turn") = (Str.ofString "press")) = False := eq_false (by decide +kernel)
@[simp] theorem w_turn_held : ((Str.ofString "turn") = (Str.ofString "held")) = False := eq_false (by decide +kernel)
@[simp] theorem w_stay_s : ((Str.ofString "stay") = (Str.ofString "s")) = False := eq_false (by decide +kernel)
@[simp] theorem w_stay_l : ((Str.ofString "stay") = (Str.ofString "l")) = False := eq_false (by decide +kernel)
@[simp] theorem w_stay_turn : ((Str.ofString "stay") = (Str.ofString "turn")) = False := eq_false (by decide +kernel)
@[simp] theorem w_stay_none : ((Str.ofString "stay") = (Str.ofString "none")) = False := eq_false (by decide +kernel)
@[simp] theorem w_stay_press : ((Str.ofString "stay") = (Str.ofString "press")) = False := eq_false (by decide +kernel)
@[simp] theorem w_stay_held : ((Str.ofString "stay") = (Str.ofString "held")) = False := eq_false (by decide +kernel)
@[simp] theorem w_none_s : ((Str.ofString "none") = (Str.ofString "s")) = False := eq_false (by decide +kernel)
@[simp] theorem w_none_l : ((Str.ofString "none") = (Str.ofString "l")) = False := eq_false (by decide +kernel)
@[simp] theorem w_none_turn : ((Str.ofString "none") = (Str.ofString "turn")) = False := eq_false (by decide +kernel)
@[simp] theorem w_none_stay : ((Str.ofString "none") = (Str.ofString "stay")) = False := eq_false (by decide +kernel)
@[simp] theorem w_none_press : ((Str.ofString "none") = (Str.ofString "press")) = False := eq_false (by decide +kernel)
@[simp] theorem w_none_held : ((Str.ofString "none") = (Str.ofString "held")) = False := eq_false (by decide +kernel)
@[simp] theorem w_press_s : ((Str.ofString "press") = (Str.ofString "s")) = False := eq_false (by decide +kernel)
@[simp] theorem w_press_l : ((Str.ofString "press") = (Str.ofString "l")) = False := eq_false (by decide +kernel)
@[simp] theorem w_press_turn : ((Str.ofString "press") = (Str.ofString "turn")) = False := eq_false (by decide +kernel)
@[simp] theorem w_press_stay : ((Str.ofString "press") = (Str.ofString "stay")) = False := eq_false (by decide +kernel)
@[simp] theorem w_press_none : ((Str.ofString "press") = (Str.ofString "none")) = False := eq_false (by decide +kernel)
@[simp] theorem w_press_held : ((Str.ofString "press") = (Str.ofString "held")) = False := eq_false (by decide +kernel)
@[simp] theorem w_held_s : ((Str.ofString "held") = (Str.ofString "s")) = False := eq_false (by decide +kernel)
@[simp] theorem w_held_l : ((Str.ofString "held") = (Str.ofString "l")) = False := eq_false (by decide +kernel)
@[simp] theorem w_held_turn : ((Str.ofString "held") = (Str.ofString "turn")) = False := eq_false (by decide +kernel)
@[simp] theorem w_held_stay : ((Str.ofString "held") = (Str.ofString "stay")) = False := eq_false (by decide +kernel)
@[simp] theorem w_held_none : ((Str.ofString "held") = (Str.ofString "none")) = False := eq_false (by decide +kernel)
@[simp] theorem w_held_press : ((Str.ofString "held") = (Str.ofString "press")) = False := eq_false (by decide +kernel)
@[simp] theorem eqv_str (a b : Str) : PyData.eqv (.str a) (.str b) = (a == b) := by simp only [PyData.eqv]
@[simp] theorem eqv_int (a b : Int) : PyData.eqv (.int a) (.int b) = (a == b) := by simp only [PyData.eqv]
@[simp] theorem eqv_bool (a b : Bool) : PyData.eqv (.bool a) (.bool b) = (a == b) := by simp only [PyData.eqv]
@[simp] theorem eqv_tuple (a b : List D) : PyData.eqv (.tuple a) (.tuple b) = PyData.eqvAll a b := by simp only [PyData.eqv]
@[simp] theorem eqv_list (a b : List D) : PyData.eqv (.list a) (.list b) = PyData.eqvAll a b := by simp only [PyData.eqv]
@[simp] theorem eqva_nil : PyData.eqvAll [] [] = true := by simp only [PyData.eqvAll]
@[simp] theorem eqva_cons (a b : D) (x y : List D) : PyData.eqvAll (a :: x) (b :: y) = (PyData.eqv a b && PyData.eqvAll x y) := by simp only [PyData.eqvAll]
@[simp] theorem eqva_nc (b : D) (y : List D) : PyData.eqvAll [] (b :: y) = false := by simp only [PyData.eqvAll]
@[simp] theorem eqva_cn (b : D) (y : List D) : PyData.eqvAll (b :: y) [] = false := by simp only [PyData.eqvAll]
end PW

set_option Elab.async false
set_option linter.all false
set_option maxRecDepth 100000
set_option maxHeartbeats 2000000
namespace PW
open PySem L2 Evl PySem.Spec PyProof.Rows
/-! ### defs that make a fresh list -/
abbrev FL := List D → (List D → Prop) → Prop
def SpL (K : Fg) (S : FL) : Sp := fun vs H Q _ => ∃ Hd ds R, Ex Hd H ∧ DpAll K Hd vs ds ∧ S ds R ∧
  ∀ p xs es H' Hd', Ex Hd' H' → Step H Hd [] H' Hd' → H p = none → Hd' p = none → H' p = some (.lst xs) → DpAll K Hd' xs es → R es → Q (.ref p) H'
def WBL (K : Fg) (t : TS) (δ : Dl) (M : Ms) (RL : List D → Prop) : Prop :=
  ∀ (e : Ent) (σ : L2.St) (H Hd : Hp) (ls : List Addr) (W : Ends), e.ls = [] → Run K e δ M σ H Hd ls →
    (∀ p xs es H' Hd', Ex Hd' H' → Step e.H e.Hd e.ls H' Hd' → e.H p = none → Hd' p = none → H' p = some (.lst xs) → DpAll K Hd' xs es → RL es → W.rt (.ref p) H') → t W σ H
section
variable {K : Fg} {δ : Dl} {M M' : Ms} {RL : List D → Ms → Prop} {te : TE} {ts : TA} {E : XK} {S : FL} {t u : TS} {RR : List D → Prop}
theorem wl_call (h : WD K ts δ M fun ds M1 => S ds fun es => RL es M1) : WL K (tCall (SpL K S) [] E ts) δ M RL := fun σ H Hd ls Q a k =>
  h σ H Hd ls _ a fun vs ds M1 H1 Hd1 a1 s1 da h1 => by
    rw [List.append_nil]
    refine ⟨Hd1, ds, _, a1.sub, da, h1, fun p xs es H2 Hd2 x2 s2 hp hd hx de q => ?_⟩
    refine k p xs es M1 H2 Hd2 (a1.up s2 x2) (s1.trans s2.all) ?_ hd (not_ls a1 hp) hx de q
    cases e : H p with
    | none => rfl
    | some o => exact absurd hp (s1.there p (by rw [e]; simp))
theorem wbl_ret (h : WL K te δ M fun ds _ => RR ds) : WBL K (tRet te) δ M RR := fun e σ H Hd ls W hn r k =>
  h σ H Hd ls _ r.sta fun p xs ds M1 H1 Hd1 a1 s1 h0 h2 h3 h4 h5 q => by
    have r1 := r.go a1 s1
    refine k p xs ds H1 Hd1 a1.sub r1.step ?_ h2 h4 h5 q
    cases e0 : e.H p with
    | none => rfl
    | some o => exact absurd h0 (r.step.there p (by rw [e0]; simp))
theorem wbl_seq (h : WB K (Own 0) t δ M { nx := fun δ' M' => WBL K u δ' M' RR, rt := fun _ _ => False }) : WBL K (tSeq t u) δ M RR := fun e σ H Hd ls W hn r k =>
  h e σ H Hd ls { W with nx := u W } (show e.ls.length = 0 by rw [hn]; rfl) r (fun δ' M' σ' H' Hd' ls' r' x' p' h' => h' e σ' H' Hd' ls' W hn r' k) (fun _ _ _ _ _ _ _ _ _ _ _ _ q => q.elim) (fun _ _ _ _ _ _ _ _ _ q => q.elim) (fun _ _ _ _ _ _ _ _ _ q => q.elim)
end
theorem fg_lst {P : Program} {w : World} {K : Fg} {mg : Str → Option Value} {base : Heap} {x qual : Str} {st : Stmt} {f : Addr} {fd : FuncData} {N ps : List Str} {k : Nat} {S : FL} (F : Fun K x qual st f fd) (sc : FnScope N ps (defScope st)) (len : ∀ ds R, S ds R → ds.length = ps.length)
    (hbody : ∀ (cdv : Value) (A : Around) (outer : List Env) (s : Shared) (H : Hp) (E : XK), Room k (A.deeper (envOfC qual (defScope st) s.heap.objs.size f cdv)) → (A.deeper (envOfC qual (defScope st) s.heap.objs.size f cdv)).guards = some [] →
      ∃ t, PSs (cxOf CX0 P w K mg base N qual (defScope st) f cdv A outer s H E).nox (defBody st) t ∧
        ∀ ds R, S ds R → WBL K t (slots N (ds.map C.dat)) [] R) : FnG P w K mg base (k + 1) f fd ps (SpL K S) := by
  refine fng F sc (fun vs H Q E h => ?_) (fun cdv A outer s H vs Q E hr hg h => ?_)
  · obtain ⟨Hd, ds, R, _, da, hs, _⟩ := h
    rw [da.length]; exact len ds R hs
  · obtain ⟨t, d, hb⟩ := hbody cdv A outer s H E hr hg
    refine ⟨t, d, ?_⟩
    obtain ⟨Hd, ds, R, sub, da, hs, hq⟩ := h
    have a : Arg K H Hd [] vs (ds.map C.dat) [] := ⟨sub, rfl, List.nodup_nil, fun k l m h => by simp at h, vcs_dat da⟩
    refine hb ds R hs ⟨H, Hd, []⟩ (L2.start N vs) H Hd [] _ rfl ⟨sta_start N a, Step.refl, List.prefix_refl _, fun k l h1 h2 => by simp at h1⟩ fun p xs es H' Hd' x2 s2 h0 h1 h2 h3 q => ?_
    exact hq p xs es H' Hd' x2 s2 h0 h1 h2 h3 q
end PW
namespace PW
open PySem L2 Evl PySem.Spec PyProof.Rows
section
variable {K : Fg} {δ : Dl} {M M' : Ms} {RL : List D → Ms → Prop} {R : D → Prop} {te : TE} {g : TG} {vs : List Nat} {d : D} {r acc : List D}
theorem comp_yes (h : WC K g vs d δ M fun δ1 => WE K te δ1 M fun y M2 => acc.length < sizeLine ∧ comp K g tYes te vs r δ M2 (acc ++ [y]) RL) : comp K g tYes te vs (d :: r) δ M acc RL :=
  fun σ H Hd ls v Q a dv k => h σ H Hd ls v Q a dv fun δ' σ' a' l' j' q => k δ' σ' a' l' j' (wt_yes q)
theorem comp_nil {tt : TT} (h : RL acc M) : comp K g tt te vs [] δ M acc RL := h
theorem atI_at {α : Type} {xs : List α} {z : Int} (h0 : 0 ≤ z) (h1 : z < xs.length) : ∃ x, x ∈ xs ∧ atI xs z = some x := by
  have hn : z.toNat < xs.length := by omega
  refine ⟨xs[z.toNat], List.getElem_mem hn, ?_⟩
  unfold atI ixN
  rw [if_pos h0, if_pos h1]
  simp [hn]
/-- any of a list's items -/
theorem od_ixA {ds : List D} {z : Int} (h0 : 0 ≤ z) (h1 : z < ds.length) (q : ∀ d, d ∈ ds → R d) : OD K (rIx K) (.list ds) (.int z) R := by
  obtain ⟨x, hx, e⟩ := atI_at h0 h1
  exact od_ix_l e (q x hx)
end
end PW
namespace PW
open PySem L2 Evl PySem.Spec PyProof.Rows
theorem wd_mono {K : Fg} {δ : Dl} {M : Ms} {ts : TA} {R R' : List D → Ms → Prop} (h : WD K ts δ M R) (hr : ∀ d M, R d M → R' d M) : WD K ts δ M R' := fun σ H Hd ls Q a k => h σ H Hd ls Q a fun v d M' H' Hd' a' s dv q => k v d M' H' Hd' a' s dv (hr _ _ q)
end PW
namespace PW
open PySem L2 Evl PySem.Spec PyProof.Rows
theorem wb_par {K : Fg} {n : Ent → Prop} {δ : Dl} {M : Ms} {P : Po} {ta : TA} {i j : Nat} (h : WD K ta δ M fun ds M1 => ∃ x y, ds = [x, y] ∧ P.nx ((δ.set i (some (.dat x))).set j (some (.dat y))) M1) : WB K n (tPar i j ta) δ M P := fun e σ H Hd ls W hn r k1 k2 k3 k4 =>
  h σ H Hd ls _ r.sta fun vs ds M1 H1 Hd1 a1 s1 da q => by
    obtain ⟨x, y, rfl, q⟩ := q
    cases da with
    | cons d1 d2 =>
      cases d2 with
      | cons d2 d3 =>
        cases d3
        have r1 := r.go a1 s1
        exact ⟨_, _, rfl, k1 _ _ _ H1 Hd1 ls ⟨(a1.put d1).put d2, r1.step, r1.pre, r1.loc⟩ s1.ext (List.prefix_refl _) q⟩
end PW
namespace PW
open PySem L2 Evl PySem.Spec PyProof.Rows
theorem wb_cut {K : Fg} {n : Ent → Prop} {δ : Dl} {M : Ms} {P : Po} {t : TS} (Mid : Dl → Ms → Prop) (h1 : WB K n t δ M { P with nx := Mid }) (h2 : ∀ δ M, Mid δ M → P.nx δ M) : WB K n t δ M P :=
  wb_mono h1 (fun δ M q => h2 δ M q) (fun _ _ q => q) (fun _ _ q => q) (fun _ _ q => q)
theorem lt_ok {n : Nat} (h : Nat.ble n 100000 = true) : n < sizeLine := by rw [sizeLine_eq]; have := Nat.le_of_ble_eq_true h; omega
end PW
namespace PW
open PySem L2 Evl PySem.Spec PyProof.Rows
theorem od_ixW {K : Fg} {R : D → Prop} (ws : List Str) {z : Int} (h0 : 0 ≤ z) (h1 : z < ws.length) (q : ∀ x, x ∈ ws → R (.str x)) : OD K (rIx K) (.list (ws.map .str)) (.int z) R :=
  od_ixA h0 (by simpa using h1) fun d hd => by
    obtain ⟨x, hx, rfl⟩ := List.mem_map.mp hd
    exact q x hx
theorem od_ixI {K : Fg} {R : D → Prop} (ws : List Int) {z : Int} (h0 : 0 ≤ z) (h1 : z < ws.length) (q : ∀ x, x ∈ ws → R (.int x)) : OD K (rIx K) (.list (ws.map .int)) (.int z) R :=
  od_ixA h0 (by simpa using h1) fun d hd => by
    obtain ⟨x, hx, rfl⟩ := List.mem_map.mp hd
    exact q x hx
end PW

set_option Elab.async false
set_option linter.all false
set_option maxRecDepth 100000
set_option maxHeartbeats 2000000
namespace PW
open PySem L2 Evl PySem.Spec PyProof.Rows
/-! ### a display of words, looked up at once -/
theorem pairs_con {σ : L2.St} {H : Hp} (ws : List (Str × Str)) : ∀ {Q : List (V × V) → Hp → Prop}, Q (ws.map fun p => (V.str p.1, V.str p.2)) H → tPairs (ws.map fun p => (tC (V.str p.1), tC (V.str p.2))) σ H Q := by
  induction ws with
  | nil => intro Q h; exact h
  | cons w r ih => intro Q h; exact ih (Q := fun ps H3 => Q ((V.str w.1, V.str w.2) :: ps) H3) h
section
variable {K : Fg} {δ : Dl} {M : Ms} {R : D → Ms → Prop} {ty : TE}
theorem we_disp (ws : List (Str × Str)) (hw : ws.length ≤ 15) (h : WE K ty δ M fun y M1 => ∃ a b, y = .str a ∧ valV (mergeK [] (ws.map fun p => ((.inr p.1 : Key), V.str p.2))) (.inr a) = some (.str b) ∧ R (.str b) M1) :
    WE K (tDGet (tDisp (ws.map fun p => (tC (V.str p.1), tC (V.str p.2)))) ty) δ M R := fun σ H Hd ls Q a k => by
  show ∀ p, H p = none → _
  intro p hp
  refine pairs_con ws ?_
  refine ⟨upd_same, ws.map fun p => ((.inr p.1 : Key), V.str p.2), by rw [List.map_map]; rfl, by rw [List.length_map]; exact hw, ?_⟩
  rw [upd_upd]
  have sub1 : Ex Hd (upd H p (.dK (mergeK [] (ws.map fun p => ((.inr p.1 : Key), V.str p.2))))) := fun b o e => by
    have := a.sub b o e
    rw [upd_ne (ne_of_none this hp)]; exact this
  have a1 := a.up (step_new (o := .dK (mergeK [] (ws.map fun p => ((.inr p.1 : Key), V.str p.2)))) hp) sub1
  refine h σ _ Hd ls _ a1 fun w y M1 H1 Hd1 a2 s2 dw h1 => ?_
  obtain ⟨x, b, rfl, e, q⟩ := h1
  cases dw
  refine ⟨p, .str b, rfl, ?_, k _ _ M1 H1 Hd1 a2 ((step_new hp).all.trans s2) (.str _) q⟩
  have := s2.old p _ upd_same (not_ls a hp)
  rw [← e]
  exact DGet.k (k := .inr x) this
end
end PW
namespace PW
open PySem L2 Evl PySem.Spec PyProof.Rows
theorem ixK {X : Cx} {K : Fg} (h : X.K = K) : IxR X (rIx K) := h ▸ ix_seq
end PW
namespace PW
open PySem L2 Evl PySem.Spec PyProof.Rows
theorem comp_if {K : Fg} {δ : Dl} {M : Ms} {RL : List D → Ms → Prop} {tt : TT} {te : TE} {g : TG} {vs : List Nat} {d : D} {r acc : List D}
    (h : WC K g vs d δ M fun δ1 => WT K tt δ1 M fun b M1 => (b = true → WE K te δ1 M1 fun y M2 => acc.length < sizeLine ∧ comp K g tt te vs r δ M2 (acc ++ [y]) RL) ∧ (b = false → comp K g tt te vs r δ M1 acc RL)) : comp K g tt te vs (d :: r) δ M acc RL :=
  fun σ H Hd ls v Q a dv k => h σ H Hd ls v Q a dv fun δ' σ' a' l' j' q => k δ' σ' a' l' j' (wt_mono q fun b M1 q => by cases b with | true => exact q.1 rfl | false => exact q.2 rfl)
end PW

set_option Elab.async false
set_option linter.all false
set_option maxRecDepth 100000
set_option maxHeartbeats 2000000
namespace PW
open PySem L2 Evl PySem.Spec PyProof.Rows PySem.W
/-! ### max and min of a tuple of ints -/
def rMaxT (K : Fg) : List V → Hp → VK → Prop := fun vs H Q => ∃ (a : Addr) (n : Int) (ns : List Int), vs = [V.ref a] ∧ SqT K H a ((n :: ns).map V.int) ∧ Q (.int (ns.foldl max n)) H
theorem reads_ints {h : Heap} {its : List Value} {ns : List Int} (r : IntsAre its ns) : ReadsAll h its (ns.map .int) [] := by
  induction r with
  | nil => exact .nil
  | cons n t _ ih => exact .cons (as := []) (.int n t) ih
theorem alike_intsT (ns : List Int) : AlikeAll (ns.map .int) := by
  refine ⟨fun x hx y hy => ?_, fun x hx => ?_⟩
  · obtain ⟨a, _, rfl⟩ := List.mem_map.mp hx
    obtain ⟨b, _, rfl⟩ := List.mem_map.mp hy
    rfl
  · obtain ⟨a, _, rfl⟩ := List.mem_map.mp hx
    exact fun z => nomatch z
theorem depth_ints (ns : List Int) : PyData.depthAll (ns.map .int) ≤ 1 := by
  induction ns with
  | nil => simp [PyData.depthAll]
  | cons n r ih => simp only [List.map, PyData.depthAll, PyData.depth]; omega
theorem call_maxT {X : Cx} (hc : X.calm = true) (hu : X.A.units + 65 < cLine) : CallR X (.builtin "max") (rMaxT X.K) := by
  intro pins s σ H vs us Q I r h
  obtain ⟨a, n, ns, rfl, hs, q⟩ := h
  obtain ⟨its, rv, hl, _⟩ := I.tuple hs
  rw [Vals.ref1 r]
  have hd := depth_ints (n :: ns)
  refine max_tuple_data (I.ok.hd hc) (let ⟨o, e, c, n, d⟩ := hl; ⟨o, e, c, n, d⟩) (x := .int n) (xs := ns.map .int) (reads_ints rv.ints) (alike_intsT (n :: ns)) ?_ fun i v h' tk bs hv hr hk => ?_
  · have : PyData.depthAll (PyData.int n :: ns.map .int) ≤ 1 := hd
    omega
  · rw [maxD_ints] at hr
    cases hr
    exact ⟨.int _, H, I.kept hk, ⟨_, rfl⟩, q⟩
end PW
namespace PW
open PySem L2 Evl PySem.Spec PyProof.Rows PySem.W
def rMinT (K : Fg) : List V → Hp → VK → Prop := fun vs H Q => ∃ (a : Addr) (n : Int) (ns : List Int), vs = [V.ref a] ∧ SqT K H a ((n :: ns).map V.int) ∧ Q (.int (ns.foldl min n)) H
theorem call_minT {X : Cx} (hc : X.calm = true) (hu : X.A.units + 65 < cLine) : CallR X (.builtin "min") (rMinT X.K) := by
  intro pins s σ H vs us Q I r h
  obtain ⟨a, n, ns, rfl, hs, q⟩ := h
  obtain ⟨its, rv, hl, _⟩ := I.tuple hs
  rw [Vals.ref1 r]
  have hd := depth_ints (n :: ns)
  refine min_tuple_data (I.ok.hd hc) (let ⟨o, e, c, n, d⟩ := hl; ⟨o, e, c, n, d⟩) (x := .int n) (xs := ns.map .int) (reads_ints rv.ints) (alike_intsT (n :: ns)) ?_ fun i v h' tk bs hv hr hk => ?_
  · have : PyData.depthAll (PyData.int n :: ns.map .int) ≤ 1 := hd
    omega
  · rw [minD_ints] at hr
    cases hr
    exact ⟨.int _, H, I.kept hk, ⟨_, rfl⟩, q⟩
section
variable {K : Fg} {R : D → Prop}
theorem cd_maxT {n : Int} {ns : List Int} (q : R (.int (ns.foldl max n))) : CD K (rMaxT K) [.tuple ((n :: ns).map .int)] R := fun H Hd vs Q ex da k => by
  cases da with
  | cons d1 d2 => cases d2; cases d1 with | tup hs ha => exact ⟨_, n, ns, rfl, by rw [← dpa_map_int (ns := n :: ns) ha]; exact ex_t ex hs, k _ _ H Hd Step.refl ex (.int _) q⟩
theorem cd_minT {n : Int} {ns : List Int} (q : R (.int (ns.foldl min n))) : CD K (rMinT K) [.tuple ((n :: ns).map .int)] R := fun H Hd vs Q ex da k => by
  cases da with
  | cons d1 d2 => cases d2; cases d1 with | tup hs ha => exact ⟨_, n, ns, rfl, by rw [← dpa_map_int (ns := n :: ns) ha]; exact ex_t ex hs, k _ _ H Hd Step.refl ex (.int _) q⟩
end
end PW
namespace PW
open PySem L2 Evl PySem.Spec PyProof.Rows PySem.W
theorem we_negC {K : Fg} {δ : Dl} {M : Ms} {R : D → Ms → Prop} {i : Int} (q : R (.int (-i)) M) : WE K (tUn (rU fun i => V.int (-i)) (tC (V.int i))) δ M R := we_un (we_int (we_neg q))
end PW

set_option Elab.async false
set_option linter.all false
set_option maxRecDepth 100000
set_option maxHeartbeats 2000000
namespace PW
open PySem L2 Evl PySem.Spec PyProof.Rows
theorem pairs_lf {σ : L2.St} {H : Hp} (ws : List (Str × D)) : ∀ {Q : List (V × V) → Hp → Prop}, Q (ws.map fun p => (V.str p.1, lfV p.2)) H → tPairs (ws.map fun p => (tC (V.str p.1), tC (lfV p.2))) σ H Q := by
  induction ws with
  | nil => intro Q h; exact h
  | cons w r ih => intro Q h; exact ih (Q := fun ps H3 => Q ((V.str w.1, lfV w.2) :: ps) H3) h
section
variable {K : Fg} {δ : Dl} {M : Ms} {R : D → Ms → Prop}
/-- a display of a dict of texts to leaves, as data -/
theorem we_dicD (ws : List (Str × D)) (hw : ws.length ≤ 15) (hl : (ws.all fun p => lfD p.2) = true) (hm : mergeK [] (ws.map fun p => ((.inr p.1 : Key), lfV p.2)) = ws.map fun p => ((.inr p.1 : Key), lfV p.2)) (h : R (.dict (ws.map fun p => (PyData.str p.1, p.2))) M) :
    WE K (tDisp (ws.map fun p => (tC (V.str p.1), tC (lfV p.2)))) δ M R := fun σ H Hd ls Q a k => by
  show ∀ p, H p = none → _
  intro p hp
  refine pairs_lf ws ?_
  refine ⟨upd_same, ws.map fun p => ((.inr p.1 : Key), lfV p.2), by rw [List.map_map]; rfl, by rw [List.length_map]; exact hw, ?_⟩
  rw [upd_upd, hm]
  have hd : Hd p = none := by
    cases e : Hd p with
    | none => rfl
    | some o => rw [a.sub p o e] at hp; cases hp
  have ex : Ex Hd (upd Hd p (.dK (ws.map fun p => ((.inr p.1 : Key), lfV p.2)))) := Ex.new hd
  have st : Step H Hd [] (upd H p (.dK (ws.map fun p => ((.inr p.1 : Key), lfV p.2)))) (upd Hd p (.dK (ws.map fun p => ((.inr p.1 : Key), lfV p.2)))) := ⟨ex, (step_new hp (Hd := Hd)).old, fun b h1 h2 => by
    have : b ≠ p := fun z => h1 (z ▸ hp)
    rw [upd_ne this]; exact h2, (step_new hp (Hd := Hd)).there⟩
  refine k (.ref p) _ M _ _ (a.up st fun b o e => ?_) st.all (.dic rfl (.inl upd_same) hl) h
  by_cases e' : b = p
  · subst e'; rw [upd_same] at e; cases e; exact upd_same
  · rw [upd_ne e'] at e; rw [upd_ne e']; exact a.sub b o e
end
end PW

set_option Elab.async false
set_option linter.all false
set_option maxRecDepth 100000
set_option maxHeartbeats 2000000
/-! ### a tuple of seven items, the last one first -/
namespace PW
open PySem PySem.Spec PyProof.Rows L2 HT
section
variable {prog : Program} {w : World} {A : Around} {E : Value → Shared → Prop} {s : Shared}
theorem sliceBack7 {sl : Addr} {vs : Value} {Q : Int × Int × Nat → Shared → Prop} (hs : s.heap.IsSliceOf sl .none .none vs) (ps : IsPart vs (some (-1)))
    (h : Q (6, -1, 7) s) : wpAny (model prog w) A (Builtin.Slice.sliceApplied (.ref sl) (pure (7 : Int))) Q E s := by
  obtain ⟨os, hos, hcs, hds⟩ := id hs
  unfold Builtin.Slice.sliceApplied Builtin.Slice.sliceFields
  refine wpAny_bind (wpAny_bind (wpAny_field hos hds (x := .none) rfl (wpAny_bind (wpAny_field hos hds (x := .none) rfl (wpAny_bind (wpAny_field hos hds (x := vs) rfl (wpAny_pure ?_)))))))
  refine wpAny_bind (slicePart_ ps ?_)
  show wpAny _ _ (if ((-1 : Int) == 0) = true then _ else _) _ _ s
  rw [if_neg (by decide)]
  refine wpAny_bind (slicePart_ .none (wpAny_bind (slicePart_ .none (wpAny_bind (wpAny_pure ?_)))))
  show wpAny _ _ (match Builtin.Slice.sliceAdjust none none (-1) (7 : Int) with | (lo, hi) => pure (lo, (-1 : Int), Builtin.Slice.slicePlaces lo hi (-1))) _ _ s
  rw [show Builtin.Slice.sliceAdjust none none (-1) (7 : Int) = (6, -1) by decide]
  exact wpAny_pure h
theorem getItem_back7 {t sl : Addr} {x1 x2 x3 x4 x5 x6 x7 : Value} {vs : Value} {Q : Value → Shared → Prop} (ht : IsTup s.heap t #[x1, x2, x3, x4, x5, x6, x7]) (hs : s.heap.IsSliceOf sl .none .none vs) (ps : IsPart vs (some (-1)))
    (h : Q (.ref s.heap.objs.size) { s with heap := s.heap.push { cls := .type "tuple", data := .seq #[x7, x6, x5, x4, x3, x2, x1] } }) : wpAny (model prog w) A (getItem (.ref t) (.ref sl)) Q E s := by
  have htake : sizeOk (.seq #[x7, x6, x5, x4, x3, x2, x1]) := by
    show (7 : Nat) ≤ sizeLine
    rw [sizeLine_eq]; decide
  obtain ⟨os, hos, hcs, hds⟩ := id hs
  have hTs : s.TypeIs (.ref sl) "slice" := ⟨os, hos, hcs⟩
  unfold getItem
  try with_reducible refine wpAny_holding ?_
  first | refine wpAny_bind (wpAny_pure ?_) | skip
  refine wpAny_bind (wpAny_sequenceKey ht.typeIs (by decide) ?_)
  refine wpAny_bind (wpAny_callSpecial?_slot (name := Str.ofString "__getitem__") ht.typeIs PyProof.Rows.slot_tuple_getitem
    (wpAny_call_entry PyProof.Rows.slot_tuple_getitem ht.typeIs entry_tuple_getitem ?_ (args_tuple_getitem _ _)))
  show wpAny _ _ (Builtin.Tuple.tupleItemsOf (.ref t) >>= _) _ _ s
  refine wpAny_bind (tupleItemsOf_ ht ?_)
  refine wpAny_bind (wpAny_typeOf hTs ?_)
  rw [if_pos (by decide)]
  refine wpAny_bind (sliceBack7 hs ps ?_)
  show wpAny _ _ (if ((6 : Int) == 0 && (-1 : Int) == 1 && (7 : Nat) == 7) = true then _ else _) _ _ s
  rw [if_neg (by decide)]
  first
    | exact wpAny_bind (m := Builtin.Tuple.tupleExact _) (wpAny_newObj_type (wpAny_pure ⟨_, rfl, wpAny_pure h⟩) htake)
    | exact wpAny_bind (m := Builtin.Tuple.tupleExact _) (wpAny_newObj_type (wpAny_bind (wpAny_pure (wpAny_pure ⟨_, rfl, wpAny_pure h⟩))) htake)
    | exact wpAny_bind (wpAny_bind (m := Builtin.Tuple.tupleExact _) (wpAny_newObj_type (wpAny_pure (wpAny_pure ⟨_, rfl, wpAny_pure h⟩)) htake))
    | exact wpAny_bind (wpAny_bind (m := Builtin.Tuple.tupleExact _) (wpAny_newObj_type (wpAny_pure ⟨_, rfl, wpAny_pure h⟩) htake))
end
end PW

set_option Elab.async false
set_option linter.all false
set_option maxRecDepth 100000
set_option maxHeartbeats 2000000
namespace PW
open PySem PySem.Spec PyProof.Rows L2 HT Evl
/-- xs[::-1] of a tuple of seven items -/
def tRevT (K : Fg) (te : TE) : TE := fun σ H Q => te σ H fun x H1 => ∃ a x1 x2 x3 x4 x5 x6 x7, x = .ref a ∧ SqT K H1 a [x1, x2, x3, x4, x5, x6, x7] ∧ ∀ p, H1 p = none → Q (.ref p) (upd H1 p (.tup [x7, x6, x5, x4, x3, x2, x1]))
section
variable {X : Cx}
theorem pe_revT {e : Expr} {te : TE} {k : Nat} {p1 p2 p3 pos : Pos} (he : PE X e te) : PE X (.Subscript e (.Slice none none (some (.UnaryOp .USub (.Constant (.int 1) k p1) p2)) p3) pos) (tRevT X.K te) := by
  refine ⟨fun pins s σ H Q I h => ?_⟩
  refine Subscript_ (thn (he.run pins s σ H _ I h) fun v s1 ⟨x, H1, I1, r1, q1⟩ => ?_)
  obtain ⟨a, x1, x2, x3, x4, x5, x6, x7, ex, hx, q⟩ := q1
  subst ex
  cases r1
  have hst : PO X (some (.UnaryOp .USub (.Constant (.int 1) k p1) p2)) (tPart (tUn (rU fun i => .int (-i)) (tC (.int 1)))) := po_some (pe_un un_neg pe_int)
  refine wpAny_Slice (thn (po_none.run pins s1 σ H1 (fun o H2 => o = none ∧ H2 = H1) I1 ⟨rfl, rfl⟩) fun vl s2 ⟨l, H2, I2, pl, el, e2⟩ => ?_)
  subst el e2
  refine thn (po_none.run pins s2 σ H2 (fun o H3 => o = none ∧ H3 = H2) I2 ⟨rfl, rfl⟩) fun vu s3 ⟨u, H3, I3, pu, eu, e3⟩ => ?_
  subst eu e3
  refine thn (hst.run pins s3 σ H3 (fun o H4 => o = some (-1) ∧ H4 = H3) I3 ⟨1, rfl, -1, rfl, rfl, rfl⟩) fun vs s4 ⟨o, H4, I4, ps, eo, e4⟩ => ?_
  subst eo e4
  cases pl
  cases pu
  have I5 : Inv X pins σ H4 { s4 with heap := s4.heap.push { cls := .type "slice", data := .fields #[.none, .none, vs] } } := I4.kept (t' := s4.toks) fun b ob q => Heap.get?_push_of_some _ q
  obtain ⟨its, r, ht, hz⟩ := I5.tuple hx
  cases r with
  | cons c1 r => cases r with
    | cons c2 r => cases r with
      | cons c3 r => cases r with
        | cons c4 r => cases r with
          | cons c5 r => cases r with
            | cons c6 r => cases r with
              | cons c7 r =>
                cases r
                show wpAny (model X.prog X.w) X.A (subscriptTail e (.Slice none none (some (.UnaryOp .USub (.Constant (.int 1) k p1) p2)) p3) (.ref a) (.ref s4.heap.objs.size)) (EP X pins σ Q) X.xe { s4 with heap := s4.heap.push { cls := .type "slice", data := .fields #[.none, .none, vs] } }
                refine tail_any (ops := [.ref a, .ref s4.heap.objs.size]) ht.typeIs (PyProof.Rows.slot_tuple_getitem.lookup) ?_ (by with_unfolding_all rfl)
                refine getItem_back7 ht (Heap.IsSliceOf.new _ .none .none vs) ps ?_
                refine ⟨.ref _, _, I5.laid (t' := s4.toks) (o := .tup [x7, x6, x5, x4, x3, x2, x1]) (fun b ob q => Heap.get?_push_of_some _ q) (Nat.le_refl _) ?_, rfl, q _ (I5.hok.fresh (Nat.le_refl _))⟩
                exact ⟨hz, _, .cons c7 (.cons c6 (.cons c5 (.cons c4 (.cons c3 (.cons c2 (.cons c1 .nil)))))), ⟨_, Heap.get?_push_size _ rfl, rfl, _, rfl⟩⟩
/-- != of two lists of unlike lengths -/
def rNeE (K : Fg) : R2 := fun x y H Q => ∃ a b xs ys, x = .ref a ∧ y = .ref b ∧ SqL K H a xs ∧ SqL K H b ys ∧ xs.length ≠ ys.length ∧ Q (.bl true) H
theorem op_neE (hu : X.A.units + 64 < cLine) : OpR X (compareOp .NotEq) (rNeE X.K) := by
  intro pins s σ H x y v u Q I rx ry h
  obtain ⟨a, b, xs, ys, rfl, rfl, ha, hb, hn, q⟩ := h
  cases rx
  cases ry
  obtain ⟨its, r1, l1, _⟩ := I.list ha
  obtain ⟨its2, r2, l2, _⟩ := I.list hb
  have e1 := r1.length
  have e2 := r2.length
  show wpAny _ _ (richCompare .NotEq (.ref a) (.ref b)) _ _ _
  refine PySem.SeqAt.RcNeAt.lists_lengths l1.isList l2.isList (by simp only [List.size_toArray]; simp; omega) (by omega) X.prog X.w _ _ ⟨.bl _, H, I, rfl, q⟩
end
section
variable {K : Fg} {δ : Dl} {M : Ms} {R : D → Ms → Prop} {te : TE}
theorem we_revT (h : WE K te δ M fun d M1 => ∃ a b c e f g i, d = .tuple [a, b, c, e, f, g, i] ∧ R (.tuple [i, g, f, e, c, b, a]) M1) : WE K (tRevT K te) δ M R := fun σ H Hd ls Q a k =>
  h σ H Hd ls _ a fun v d M1 H1 Hd1 a1 s1 dv h1 => by
    obtain ⟨d1, d2, d3, d4, d5, d6, d7, rfl, q⟩ := h1
    cases dv with
    | tup hs ha =>
      cases ha with
      | cons g1 ha => cases ha with
        | cons g2 ha => cases ha with
          | cons g3 ha => cases ha with
            | cons g4 ha => cases ha with
              | cons g5 ha => cases ha with
                | cons g6 ha => cases ha with
                  | cons g7 ha =>
                    cases ha
                    refine ⟨_, _, _, _, _, _, _, _, rfl, ex_t a1.sub hs, fun p hp => ?_⟩
                    obtain ⟨st, ex2, dn⟩ := tupNew (Hd := Hd1) a1.sub hp (.cons g7 (.cons g6 (.cons g5 (.cons g4 (.cons g3 (.cons g2 (.cons g1 .nil)))))))
                    exact k _ _ M1 _ _ (a1.up st ex2) (s1.trans st.all) dn q
theorem od_neE {xs ys : List D} {R : D → Prop} (hn : xs.length ≠ ys.length) (q : R (.bool true)) : OD K (rNeE K) (.list xs) (.list ys) R := fun H Hd v w Q ex dx dy k => by
  cases dx with
  | lst h1 a1 =>
    cases dy with
    | lst h2 a2 => exact ⟨_, _, _, _, rfl, rfl, ex_l ex h1, ex_l ex h2, by rw [a1.length, a2.length]; exact hn, k _ _ H Hd Step.refl ex (.bl _) q⟩
end
end PW

set_option Elab.async false
set_option linter.all false
set_option maxRecDepth 100000
set_option maxHeartbeats 2000000
namespace PW
open PySem L2 Evl PySem.Spec PyProof.Rows
section
variable {K : Fg} {δ : Dl} {M : Ms} {R : D → Ms → Prop} {RR : D → Prop} {x : D}
theorem od_inLf {ds : List D} (f : flatD x = true) (fs : ds.all flatD = true) (q : RR (.bool (ds.any fun z => PyData.eqv z x))) : OD K (rIn K false) x (.list ds) RR := fun H Hd v w Q ex dx dy k => by
  cases dy with
  | lst hs ha =>
    refine ⟨_, _, rfl, .inl (ex_l ex hs), flat_of dx f, flats_of ha fs, ?_⟩
    have e := inV_of dx f ha fs
    simp only [Bool.false_eq_true, if_false, e]
    exact k _ _ H Hd Step.refl ex (.bl _) q
/-- {} as data -/
theorem we_dnewK (h : R (.dict []) M) : WE K tDNewK δ M R := fun σ H Hd ls Q a k => by
  show ∀ p, H p = none → _
  intro p hp
  have hd : Hd p = none := by
    cases e : Hd p with
    | none => rfl
    | some o => rw [a.sub p o e] at hp; cases hp
  have ex : Ex Hd (upd Hd p (.dK [])) := Ex.new hd
  have st : Step H Hd [] (upd H p (.dK [])) (upd Hd p (.dK [])) := ⟨ex, (step_new hp (Hd := Hd)).old, fun b h1 h2 => by
    have : b ≠ p := fun z => h1 (z ▸ hp)
    rw [upd_ne this]; exact h2, (step_new hp (Hd := Hd)).there⟩
  refine k (.ref p) _ M _ _ (a.up st fun b o e => ?_) st.all (.dic (ps := []) rfl (.inl upd_same) rfl) h
  by_cases e' : b = p
  · subst e'; rw [upd_same] at e; cases e; exact upd_same
  · rw [upd_ne e'] at e; rw [upd_ne e']; exact a.sub b o e
end
/-! ### in a comprehension's body: the same over K -/
theorem isiK {X : Cx} {K : Fg} (h : X.K = K) : CallR X (.builtin "isinstance") (rIsi K) := h ▸ call_isi
theorem truK {X : Cx} {K : Fg} {a : Expr} {ta : TE} (h : X.K = K) (ha : PE X a ta) (he : ∀ whole, isTrue a X.env whole = (do let v ← whole; standAt a.pos; holding [v] (truthy v))) :
    PT X a (fun σ H Q => ta σ H fun x H' => ∃ k, TruV K x H' k ∧ Q k H') := by subst h; exact pt_truth ha he
theorem catK {X : Cx} {K : Fg} (h : X.K = K) : OpR X (binaryOp .Add) (rCatS K) := h ▸ op_catS
theorem slK {X : Cx} {K : Fg} (h : X.K = K) : SlR X (rSlL K) := h ▸ sl_list
theorem tupK {X : Cx} {K : Fg} (h : X.K = K) : CallR X (.type "tuple") (rTupD K) := h ▸ call_tuple_of
section
variable {K : Fg} {δ : Dl} {M : Ms} {RL : List D → Ms → Prop} {te : TE} {g : TG} {vs : List Nat}
/-- a comprehension whose items all have a property -/
theorem comp_each {P : D → Prop} (ds : List D) : ∀ (acc : List D), (∀ d ∈ ds, WC K g vs d δ M fun δ1 => WE K te δ1 M fun y M2 => M2 = M ∧ P y) → acc.length + ds.length ≤ sizeLine → (∀ y ∈ acc, P y) → (∀ es, es.length = acc.length + ds.length → (∀ y ∈ es, P y) → RL es M) → comp K g tYes te vs ds δ M acc RL := by
  induction ds with
  | nil => intro acc h hl ha k; exact comp_nil (k acc (by simp) ha)
  | cons d ds ih =>
    intro acc h hl ha k
    refine comp_yes ?_
    have h1 := h d (by simp)
    intro σ H Hd ls v Q a dv kk
    refine h1 σ H Hd ls v Q a dv fun δ' σ' a' l' j' q => kk δ' σ' a' l' j' (we_mono q fun y M2 q2 => ?_)
    obtain ⟨e, py⟩ := q2
    subst e
    simp only [List.length_cons] at hl
    refine ⟨by omega, ih (acc ++ [y]) (fun x hx => h x (by simp [hx])) (by rw [List.length_append]; simp only [List.length_cons, List.length_nil]; omega) (fun z hz => ?_) fun es he hes => k es (by rw [List.length_append] at he; simp only [List.length_cons, List.length_nil] at he ⊢; omega) hes⟩
    rcases List.mem_append.mp hz with hz | hz
    · exact ha z hz
    · rw [List.mem_singleton.mp hz]; exact py
end
theorem cutD_mem {xs : List D} {lo hi : Option Int} {x : D} (h : x ∈ cutD xs lo hi) : x ∈ xs := List.mem_of_mem_drop (List.mem_of_mem_take h)
theorem cutD_len (xs : List D) (lo hi : Option Int) : (cutD xs lo hi).length ≤ xs.length := by
  unfold cutD
  rw [List.length_take, List.length_drop]
  omega
end PW

set_option Elab.async false
set_option linter.all false
set_option maxRecDepth 100000
set_option maxHeartbeats 2000000
namespace PW
open PySem L2 Evl PySem.Spec PyProof.Rows
/-! ### an own dict of two levers -/
abbrev DN (a b : Bool) : MO := .dic [(.inr "s", .bool a), (.inr "l", .bool b)]
abbrev dnV (a b : Bool) : HO := .dK [(.inr "s", .bl a), (.inr "l", .bl b)]
theorem dn_at {K : Fg} {Hd H : Hp} {l : Addr} {a b : Bool} (h : MAt K Hd H l (DN a b)) : Hd l = none ∧ H l = some (dnV a b) := by
  obtain ⟨n, us, hu, hk, da⟩ := h
  refine ⟨n, ?_⟩
  rw [hu]
  match us, hk, da with
  | [(k1, v1), (k2, v2)], hk, da =>
    simp only [List.map_cons, List.map_nil, List.cons.injEq, and_true] at hk
    obtain ⟨rfl, rfl⟩ := hk
    cases da with
    | cons d1 d2 =>
      cases d1
      cases d2 with
      | cons d2 d3 =>
        cases d2
        cases d3
        rfl
  | [], hk, _ => simp at hk
  | [_], hk, _ => simp at hk
  | _ :: _ :: _ :: _, hk, _ => simp at hk
theorem dn_mk {K : Fg} {Hd H : Hp} {l : Addr} {a b : Bool} (n : Hd l = none) (h : H l = some (dnV a b)) : MAt K Hd H l (DN a b) :=
  ⟨n, _, h, rfl, .cons (.bl a) (.cons (.bl b) .nil)⟩
def lev (x : Str) : Prop := x = "s" ∨ x = "l"
theorem ksl : ((.inr "s" : Key) = .inr "l") = False := eq_false (by decide +kernel)
theorem kls : ((.inr "l" : Key) = .inr "s") = False := eq_false (by decide +kernel)
theorem sls : ((Str.ofString "l") = Str.ofString "s") = False := eq_false (by decide +kernel)
theorem dn_val {x : Str} {a b : Bool} (h : lev x) : valV [((.inr "s" : Key), V.bl a), (.inr "l", .bl b)] (.inr x) = some (.bl (if x = "s" then a else b)) := by
  rcases h with rfl | rfl
  · rw [if_pos rfl, valV_pos rfl]
  · rw [if_neg (by rw [sls]; exact not_false), valV_neg (by rw [ksl]; exact not_false), valV_pos rfl]
theorem dn_put {x : Str} {a b c : Bool} (h : lev x) : HO.dK (putK [((.inr "s" : Key), V.bl a), (.inr "l", .bl b)] (.inr x) (.bl c)) = if x = "s" then dnV c b else dnV a c := by
  rcases h with rfl | rfl
  · rw [if_pos rfl]
    simp [putK, dnV, kls, ksl]
  · rw [if_neg (by rw [sls]; exact not_false)]
    simp [putK, dnV, kls, ksl]
section
variable {K : Fg} {n : Ent → Prop} {δ : Dl} {M M' : Ms} {σ : L2.St} {H Hd : Hp} {ls : List Addr} {P : Po} {te ti ta tv ty : TE} {R : D → Ms → Prop} {d : D}
theorem we_dn {i k : Nat} (ho : δ[i]? = some (some (.own k))) (h : WE K ty δ M fun y M1 => ∃ x a b, y = .str x ∧ lev x ∧ M1[k]? = some (DN a b) ∧ R (.bool (if x = "s" then a else b)) M1) : WE K (tDGet (tVar i) ty) δ M R := fun σ H Hd ls Q a kk => by
  obtain ⟨l, hl, hv⟩ := a.own i k ho
  refine ⟨_, hv, h σ H Hd ls _ a fun w y M1 H1 Hd1 a1 s1 dw h1 => ?_⟩
  obtain ⟨x, p, q, rfl, hx, hm, hr⟩ := h1
  cases dw
  obtain ⟨n0, hd⟩ := dn_at (a1.obj k l _ hl hm)
  refine ⟨l, _, rfl, ?_, kk _ _ M1 H1 Hd1 a1 s1 (.bl _) hr⟩
  have := DGet.k (k := .inr x) hd
  rw [dn_val hx] at this
  exact this
theorem wb_dput {i k : Nat} (ho : δ[i]? = some (some (.own k))) (h : WE K tv δ M fun v M1 => ∃ c, v = .bool c ∧ WE K ty δ M1 fun y M2 => ∃ x a b, y = .str x ∧ lev x ∧ M2[k]? = some (DN a b) ∧ P.nx δ (M2.set k (if x = "s" then DN c b else DN a c))) : WB K n (sDPut (tVar i) ty tv) δ M P := fun e σ H Hd ls W hn r k1 k2 k3 k4 =>
  h σ H Hd ls _ r.sta fun v vd M1 H1 Hd1 a1 s1 dv h1 => by
    obtain ⟨c, rfl, h1⟩ := h1
    cases dv
    obtain ⟨l, hl, hv⟩ := a1.own i k ho
    refine ⟨_, hv, h1 σ H1 Hd1 ls _ a1 fun w y M2 H2 Hd2 a2 s2 dw h2 => ?_⟩
    obtain ⟨x, p, q, rfl, hx, hm, hr⟩ := h2
    cases dw
    obtain ⟨n0, hd⟩ := dn_at (a2.obj k l _ hl hm)
    refine ⟨l, _, rfl, DPut.k (k := .inr x) hd (by simp; exact lt_ok rfl), ?_⟩
    have s12 := s1.trans s2
    rw [dn_put hx]
    have hs : Sta K δ (M2.set k (if x = "s" then DN c q else DN p c)) σ (upd H2 l (if x = "s" then dnV c q else dnV p c)) Hd2 ls := by
      refine a2.write hl n0 ?_
      by_cases e : x = "s"
      · rw [if_pos e, if_pos e]; exact dn_mk n0 upd_same
      · rw [if_neg e, if_neg e]; exact dn_mk n0 upd_same
    have st := s12.trans (step_write (o := if x = "s" then dnV c q else dnV p c) hl (by rw [hd]; simp))
    have r2 := r.go hs st
    exact k1 _ _ _ _ Hd2 ls r2 st.ext (List.prefix_refl _) hr
/-- the store into such a dict among the targets of one assignment -/
def rSetK : V → V → V → Hp → (Hp → Prop) → Prop := fun o i v H Q => ∃ p kvs k, o = .ref p ∧ i = kV k ∧ H p = some (.dK kvs) ∧ kvs.length < sizeLine ∧ Q (upd H p (.dK (putK kvs k v)))
theorem set_dk {X : Cx} (hu : X.A.units + 1 < cLine) : PSet X rSetK := by
  intro pins s σ H o i v ov iv u Q I ro ri rv h
  obtain ⟨p, kvs, k, rfl, rfl, hp, hl, q⟩ := h
  obtain rfl : ov = Value.ref p := ro
  exact d_setItem hu I (DPut.k hp hl) ri rv fun s' I' => ⟨_, I', q⟩
theorem wg_dn {i k : Nat} {c : Bool} {R : Dl → Ms → Prop} (ho : δ[i]? = some (some (.own k))) (h : WE K ti δ M fun y M1 => ∃ x a b, y = .str x ∧ lev x ∧ M1[k]? = some (DN a b) ∧ R δ (M1.set k (if x = "s" then DN c b else DN a c))) : WG K (gSub (tVar i) ti rSetK) (.bool c) δ M R := fun σ H Hd ls v Q a dv kk => by
  obtain ⟨l, hl, hv⟩ := a.own i k ho
  cases dv
  refine ⟨_, hv, h σ H Hd ls _ a fun w y M1 H1 Hd1 a1 s1 dw h1 => ?_⟩
  obtain ⟨x, p, q, rfl, hx, hm, hr⟩ := h1
  cases dw
  obtain ⟨n0, hd⟩ := dn_at (a1.obj k l _ hl hm)
  refine ⟨l, _, .inr x, rfl, rfl, hd, by simp; exact lt_ok rfl, ?_⟩
  rw [dn_put hx]
  refine kk δ _ σ _ Hd1 ?_ (s1.trans (step_write (o := if x = "s" then dnV c q else dnV p c) hl (by rw [hd]; simp))) hr
  refine a1.write hl n0 ?_
  by_cases e : x = "s"
  · rw [if_pos e, if_pos e]; exact dn_mk n0 upd_same
  · rw [if_neg e, if_neg e]; exact dn_mk n0 upd_same
end
end PW

set_option Elab.async false
set_option linter.all false
set_option maxRecDepth 100000
set_option maxHeartbeats 2000000
namespace PW
open PySem L2 Evl PySem.Spec PyProof.Rows
section
variable {K : Fg} {n : Ent → Prop} {δ : Dl} {M M' : Ms} {σ : L2.St} {H Hd : Hp} {ls : List Addr} {P : Po} {te ti ta tv ty : TE} {R : D → Ms → Prop} {d : D}
/-- a fresh object becomes an owned one -/
theorem Sta.adoptM (a : Sta K δ M σ H Hd ls) {p : Addr} {m : MO} {i : Nat} (hm : MAt K Hd H p m) (nl : p ∉ ls) :
    Sta K (δ.set i (some (.own M.length))) (M ++ [m]) (σ.set i (some (.ref p))) H Hd (ls ++ [p]) := by
  refine ⟨a.sub, by simp [a.mlen], by rw [List.nodup_append]; exact ⟨a.nd, by simp, fun x hx y hy => by simp at hy; rw [hy]; exact fun z => nl (z ▸ hx)⟩, fun k l m2 h1 h2 => ?_, by simp [a.dlen], fun j x h => ?_, fun j k h => ?_⟩
  · by_cases hk : k < ls.length
    · rw [List.getElem?_append_left hk] at h1
      rw [List.getElem?_append_left (by rw [← a.mlen]; exact hk)] at h2
      exact a.obj k l m2 h1 h2
    · have hk' : k = ls.length := by
        have := (List.getElem?_eq_some_iff.mp h1).1
        simp at this; omega
      subst hk'
      have e1 : (ls ++ [p])[ls.length]? = some p := by simp
      have e2 : (M ++ [m])[ls.length]? = some m := by rw [a.mlen]; simp
      rw [e1] at h1; rw [e2] at h2
      cases h1; cases h2
      exact hm
  · by_cases e : i = j
    · subst e
      rw [List.getElem?_set] at h
      simp only [if_true] at h
      split at h
      · cases h
      · cases h
    · rw [List.getElem?_set_ne e] at h ⊢
      exact a.dat j x h
  · by_cases e : i = j
    · subst e
      rw [List.getElem?_set] at h ⊢
      simp only [if_true] at h ⊢
      split at h
      · rename_i hl
        cases h
        rw [if_pos (by rw [a.dlen]; exact hl)]
        exact ⟨p, by rw [← a.mlen]; simp, rfl⟩
      · cases h
    · rw [List.getElem?_set_ne e] at h ⊢
      obtain ⟨l, h1, h2⟩ := a.own j k h
      exact ⟨l, by rw [List.getElem?_append_left (List.getElem?_eq_some_iff.mp h1).1]; exact h1, h2⟩
theorem Run.adopt {e : Ent} (r : Run K e δ M σ H Hd ls) {p : Addr} {m : MO} {i : Nat} (hm : MAt K Hd H p m) (nl : p ∉ ls) (h0 : e.H p = none) :
    Run K e (δ.set i (some (.own M.length))) (M ++ [m]) (σ.set i (some (.ref p))) H Hd (ls ++ [p]) := by
  refine ⟨r.sta.adoptM hm nl, r.step, r.pre.trans (List.prefix_append _ _), fun k l hk hl => ?_⟩
  by_cases hlt : k < ls.length
  · rw [List.getElem?_append_left hlt] at hk; exact r.loc k l hk hl
  · have hk' : k = ls.length := by
      have := (List.getElem?_eq_some_iff.mp hk).1
      simp at this; omega
    subst hk'
    simp at hk
    subst hk
    exact h0
/-- the display of the two levers, both up -/
abbrev tDN0 : TE := tDisp [(tC (V.str "s"), tC (V.bl false)), (tC (V.str "l"), tC (V.bl false))]
theorem disp_dn {σ : L2.St} {H : Hp} {Q : VK} (h : ∀ p, H p = none → Q (.ref p) (upd H p (dnV false false))) : tDN0 σ H Q := by
  show ∀ p, H p = none → _
  intro p hp
  refine ⟨upd_same, [(.inr "s", .bl false), (.inr "l", .bl false)], rfl, by decide, ?_⟩
  rw [upd_upd]
  have e : mergeK [] [((.inr "s" : Key), V.bl false), (.inr "l", .bl false)] = [(.inr "s", .bl false), (.inr "l", .bl false)] := by
    simp [mergeK, putK, ksl]
  rw [e]
  exact h p hp
theorem fresh_hd (sub : Ex Hd H) {p : Addr} (hp : H p = none) : Hd p = none := by
  cases e : Hd p with
  | none => rfl
  | some o => rw [sub p o e] at hp; cases hp
theorem sta_new (a : Sta K δ M σ H Hd ls) {p : Addr} {o : HO} (hp : H p = none) : Sta K δ M σ (upd H p o) Hd ls := a.up (step_new hp) fun b u e => by
  have := a.sub b u e
  rw [upd_ne (ne_of_none this hp)]; exact this
theorem ent_none {e : Ent} (r : Run K e δ M σ H Hd ls) {p : Addr} (hp : H p = none) : e.H p = none := by
  cases e0 : e.H p with
  | none => rfl
  | some o => exact absurd hp (r.step.there p (by rw [e0]; simp))
theorem wb_asgDN {i : Nat} (q : P.nx (δ.set i (some (.own M.length))) (M ++ [DN false false])) : WB K n (tAsg tDN0 (gName i)) δ M P := fun e σ H Hd ls W hn r k1 k2 k3 k4 => by
  show tDN0 σ H (fun x H1 => gName i x σ H1 W.nx)
  refine disp_dn fun p hp => ?_
  have a1 := sta_new r.sta (o := dnV false false) hp
  have s1 : Step H Hd ls (upd H p (dnV false false)) Hd := (step_new hp).all
  have r1 := r.go a1 s1
  exact k1 _ _ _ _ Hd (ls ++ [p]) (r1.adopt (dn_mk (fresh_hd r.sta.sub hp) upd_same) (not_ls r.sta hp) (ent_none r hp)) (Ex.refl _) (List.prefix_append _ _) q
/-- x, y = {..}, e -/
theorem wb_parDN {i j : Nat} (h : WE K te δ M fun d M1 => M1 = M ∧ P.nx ((δ.set i (some (.own M.length))).set j (some (.dat d))) (M ++ [DN false false])) : WB K n (tPar i j (tCons tDN0 (tCons te tNil))) δ M P := fun e σ H Hd ls W hn r k1 k2 k3 k4 => by
  show tDN0 σ H (fun x H1 => tCons te tNil σ H1 fun xs H2 => ∃ v w, x :: xs = [v, w] ∧ W.nx ((σ.set i (some v)).set j (some w)) H2)
  refine disp_dn fun p hp => ?_
  have a1 := sta_new r.sta (o := dnV false false) hp
  have s1 : Step H Hd ls (upd H p (dnV false false)) Hd := (step_new hp).all
  refine h σ _ Hd ls _ a1 fun v d M1 H1 Hd1 a2 s2 dv q => ?_
  obtain ⟨rfl, q⟩ := q
  have r1 := r.go a2 (s1.trans s2)
  refine ⟨_, _, rfl, ?_⟩
  have n1 : Hd1 p = none := s2.new p (by rw [upd_same]; simp) (fresh_hd r.sta.sub hp)
  have e1 : H1 p = some (dnV false false) := s2.old p _ upd_same (not_ls r.sta hp)
  have r2 := r1.adopt (i := i) (dn_mk n1 e1) (not_ls r.sta hp) (ent_none r hp)
  exact k1 _ _ _ H1 Hd1 (ls ++ [p]) ⟨r2.sta.put dv, r2.step, r2.pre, r2.loc⟩ (s1.trans s2).ext (List.prefix_append _ _) q
/-- x, y = [], {..} -/
theorem wb_parLD {i j : Nat} (q : P.nx ((δ.set i (some (.own M.length))).set j (some (.own (M.length + 1)))) (M ++ [.lst []] ++ [DN false false])) : WB K n (tPar i j (tCons (tLst tNil) (tCons tDN0 tNil))) δ M P := fun e σ H Hd ls W hn r k1 k2 k3 k4 => by
  refine ⟨Nat.zero_le _, fun p hp => ?_⟩
  have a1 := sta_new r.sta (o := .lst []) hp
  have s1 : Step H Hd ls (upd H p (.lst [])) Hd := (step_new hp).all
  show tDN0 σ (upd H p (.lst [])) (fun x H1 => ∃ v w, V.ref p :: x :: [] = [v, w] ∧ W.nx ((σ.set i (some v)).set j (some w)) H1)
  refine disp_dn fun p2 hp2 => ?_
  have a2 := sta_new a1 (o := dnV false false) hp2
  have s2 : Step (upd H p (.lst [])) Hd ls (upd (upd H p (.lst [])) p2 (dnV false false)) Hd := (step_new hp2).all
  have r2 := r.go a2 (s1.trans s2)
  have hne : p ≠ p2 := fun z => by rw [← z, upd_same] at hp2; cases hp2
  have e1 : (upd (upd H p (.lst [])) p2 (dnV false false)) p = some (.lst []) := by rw [upd_ne hne, upd_same]
  have hp2' : H p2 = none := by rw [upd_ne (Ne.symm hne)] at hp2; exact hp2
  have m1 : MAt K Hd (upd (upd H p (.lst [])) p2 (dnV false false)) p (.lst []) := ⟨fresh_hd r.sta.sub hp, _, e1, .nil⟩
  have r3 := r2.adopt (i := i) m1 (not_ls r.sta hp) (ent_none r hp)
  have r4 := r3.adopt (i := j) (dn_mk (fresh_hd r.sta.sub hp2') upd_same) (fun z => by
    rcases List.mem_append.mp z with z | z
    · exact not_ls r.sta hp2' z
    · exact hne (List.mem_singleton.mp z).symm) (ent_none r hp2')
  refine ⟨_, _, rfl, ?_⟩
  have e2 : (M ++ [MO.lst []]).length = M.length + 1 := by simp
  rw [e2] at r4
  exact k1 _ _ _ _ Hd _ r4 (Ex.refl _) ((List.prefix_append _ _).trans (List.prefix_append _ _)) q
/-- for x in a text -/
theorem wb_forS {g : TG} {tb : TS} (h : WE K te δ M fun d M1 => ∃ x : Str, d = .str x ∧ turns K n g tb (x.cps.toList.map fun c => .str ⟨#[c]⟩) δ M1 P) : WB K n (tFor (iStr te) g tb) δ M P := fun e σ H Hd ls W hn r k1 k2 k3 k4 =>
  h σ H Hd ls _ r.sta fun v d M1 H1 Hd1 a1 s1 dv h1 => by
    obtain ⟨x, rfl, ht⟩ := h1
    cases dv
    refine ⟨x, rfl, ?_⟩
    refine for_turns (D' := D) hn (r.go a1 s1) (fun i H' hi y => ?_) (fun H' y => ?_) (fun i H' y H2 hi ex z => ?_) ht (fun δ' M' σ' H' Hd' ls' r' x' => k1 δ' M' σ' H' Hd' ls' r' (s1.ext.trans x')) (fun v d δ' M' σ' H' Hd' ls' r' x' => k2 v d δ' M' σ' H' Hd' ls' r' (s1.ext.trans x'))
    · show i < x.cps.size
      simpa using hi
    · show x.cps.size ≤ _
      simp
    · obtain ⟨e1, c, hc, rfl⟩ := z
      refine ⟨e1, .str ⟨#[c]⟩, ?_, .str _⟩
      rw [List.getElem?_map, Array.getElem?_toList, hc]
      rfl
end
end PW

set_option Elab.async false
set_option linter.all false
set_option maxRecDepth 100000
set_option maxHeartbeats 2000000
namespace PW
open PySem L2 Evl PySem.Spec PyProof.Rows
/-- the pairs of enumerate -/
def enumD : Nat → List D → List D
  | _, [] => []
  | i, d :: r => .tuple [.int (i : Nat), d] :: enumD (i + 1) r
theorem enumD_len : ∀ (ds : List D) (i : Nat), (enumD i ds).length = ds.length
  | [], _ => rfl
  | d :: r, i => by simp [enumD, enumD_len r]
theorem enumD_get : ∀ (ds : List D) (i j : Nat) (d : D), ds[j]? = some d → (enumD i ds)[j]? = some (.tuple [.int ((i + j : Nat) : Int), d])
  | [], _, _, _, h => by simp at h
  | x :: r, i, 0, d, h => by
    simp at h; subst h
    rfl
  | x :: r, i, j + 1, d, h => by
    have := enumD_get r (i + 1) j d (by simpa using h)
    show (enumD (i + 1) r)[j]? = _
    rw [this, show i + 1 + j = i + (j + 1) by omega]
section
variable {K : Fg} {n : Ent → Prop} {δ : Dl} {M M' : Ms} {P : Po} {te : TE} {ta : TA} {g : TG} {tb : TS} {tt : TT}
theorem enum_turns {W : Ends} {σ : L2.St} {H Hd : Hp} {ls : List Addr} {e : Ent} {J : It} {ds : List D} (hn : n e) (r : Run K e δ M σ H Hd ls)
    (hgo : ∀ (i : Nat) H', i < ds.length → Ex Hd H' → J.go i H') (hstop : ∀ H', Ex Hd H' → J.stop ds.length H')
    (hyld : ∀ (i : Nat) H' x H2, i < ds.length → Ex Hd H' → J.yld i H' x H2 → ∃ T y d, x = .ref T ∧ H' T = none ∧ H2 = upd H' T (.tup [.int (i : Nat), y]) ∧ ds[i]? = some d ∧ Dp K Hd y d)
    (h : turns K n g tb (enumD 0 ds) δ M P)
    (k1 : ∀ δ' M' σ' H' Hd' ls', Run K e δ' M' σ' H' Hd' ls' → Ex Hd Hd' → ls <+: ls' → P.nx δ' M' → W.nx σ' H')
    (k2 : ∀ v d δ' M' σ' H' Hd' ls', Run K e δ' M' σ' H' Hd' ls' → Ex Hd Hd' → ls <+: ls' → Dp K Hd' v d → P.rt d M' → W.rt v H') :
    ∃ W' : Nat → Nat → L2.St → Hp → Prop, (∃ m, W' 0 m σ H) ∧ ∀ i m σ H, W' i m σ H →
      (J.stop i H ∧ W.nx σ H) ∨ (J.go i H ∧ ∃ Nx : L2.St → Hp → Prop, (∀ σ' H', Nx σ' H' → ∃ m', m' < m ∧ W' (i + 1) m' σ' H') ∧ ∀ x H', J.yld i H x H' → g x σ H' fun σ2 H2 => tb { W with nx := Nx, ct := Nx, bk := W.nx } σ2 H2) := by
  refine ⟨fun i m σ' H' => m = ds.length - i ∧ i ≤ ds.length ∧ ∃ δ' M' Hd' ls', Run K e δ' M' σ' H' Hd' ls' ∧ Ex Hd Hd' ∧ ls <+: ls' ∧ turns K n g tb ((enumD 0 ds).drop i) δ' M' P, ⟨ds.length, by simp, Nat.zero_le _, δ, M, Hd, ls, r, Ex.refl _, List.prefix_refl _, by simpa using h⟩, ?_⟩
  rintro i m σ1 H1 ⟨rfl, hi, δ1, M1, Hd1, ls1, r1, x1, p1, t1⟩
  have ex1 : Ex Hd H1 := x1.trans r1.sta.sub
  by_cases hlt : i < ds.length
  · refine .inr ⟨hgo i H1 hlt ex1, fun σ' H' => ∃ δ' M' Hd' ls', Run K e δ' M' σ' H' Hd' ls' ∧ Ex Hd Hd' ∧ ls <+: ls' ∧ turns K n g tb ((enumD 0 ds).drop (i + 1)) δ' M' P, fun σ' H' q => ⟨ds.length - (i + 1), by omega, rfl, hlt, q⟩, fun x H2 y => ?_⟩
    obtain ⟨T, yv, d, rfl, hT, rfl, hd, dx⟩ := hyld i H1 x H2 hlt ex1 y
    have e3 : (enumD 0 ds).drop i = .tuple [.int ((0 + i : Nat) : Int), d] :: (enumD 0 ds).drop (i + 1) := by
      have hl : i < (enumD 0 ds).length := by rw [enumD_len]; exact hlt
      have hg := enumD_get ds 0 i d hd
      rw [List.drop_eq_getElem_cons hl]
      rw [List.getElem?_eq_getElem hl] at hg
      rw [Option.some.inj hg]
    rw [e3, Nat.zero_add] at t1
    obtain ⟨st, exx, dn⟩ := tupNew (K := K) (xs := [.int (i : Nat), yv]) (ds := [.int (i : Nat), d]) r1.sta.sub hT (.cons (.int _) (.cons (dx.up x1) .nil))
    have r1' := r1.go (r1.sta.up st exx) st.all
    have x1' : Ex Hd (upd Hd1 T (.tup [.int (i : Nat), yv])) := x1.trans st.ext
    have t2 : WG K g (.tuple [.int (i : Nat), d]) δ1 M1 fun δ1 M1 => WB K n tb δ1 M1 { nx := fun δ2 M2 => turns K n g tb ((enumD 0 ds).drop (i + 1)) δ2 M2 P, rt := P.rt, bk := P.nx, ct := fun δ2 M2 => turns K n g tb ((enumD 0 ds).drop (i + 1)) δ2 M2 P } := t1
    refine t2 σ1 _ _ ls1 (.ref T) _ r1'.sta dn fun δ2 M2 σ2 H2' Hd2 a2 s2 q2 => ?_
    have r2 : Run K e δ2 M2 σ2 H2' Hd2 ls1 := by
      refine ⟨a2, ⟨r1'.step.ext.trans s2.ext, fun x o h n => ?_, fun x h n => s2.new x (r1'.step.there x h) (r1'.step.new x h n), fun x h => s2.there x (r1'.step.there x h)⟩, r1'.pre, r1'.loc⟩
      refine s2.old x o (r1'.step.old x o h n) fun hm => ?_
      obtain ⟨k, hk, ek⟩ := List.getElem_of_mem hm
      by_cases hlt : k < e.ls.length
      · obtain ⟨tl, et⟩ := r1'.pre
        refine n ?_
        have : ls1[k]? = e.ls[k]? := by rw [← et, List.getElem?_append_left hlt]
        rw [List.getElem?_eq_getElem hk, ek, List.getElem?_eq_getElem hlt] at this
        rw [Option.some.inj this]
        exact List.getElem_mem hlt
      · have := r1'.loc k x (by rw [List.getElem?_eq_getElem hk, ek]) (by omega)
        rw [h] at this; cases this
    refine q2 e σ2 H2' Hd2 ls1 _ hn r2 (fun δ3 M3 σ3 H3 Hd3 ls3 r3 x3 p3 q3 => ⟨δ3, M3, Hd3, ls3, r3, (x1'.trans s2.ext).trans x3, p1.trans p3, q3⟩)
      (fun v d δ3 M3 σ3 H3 Hd3 ls3 r3 x3 p3 dv q3 => k2 v d δ3 M3 σ3 H3 Hd3 ls3 r3 ((x1'.trans s2.ext).trans x3) (p1.trans p3) dv q3)
      (fun δ3 M3 σ3 H3 Hd3 ls3 r3 x3 p3 q3 => k1 δ3 M3 σ3 H3 Hd3 ls3 r3 ((x1'.trans s2.ext).trans x3) (p1.trans p3) q3)
      (fun δ3 M3 σ3 H3 Hd3 ls3 r3 x3 p3 q3 => ⟨δ3, M3, Hd3, ls3, r3, (x1'.trans s2.ext).trans x3, p1.trans p3, q3⟩)
  · have e2 : i = ds.length := by omega
    subst e2
    rw [List.drop_of_length_le (by rw [enumD_len]; exact Nat.le_refl _)] at t1
    exact .inl ⟨hstop H1 ex1, k1 δ1 M1 σ1 H1 Hd1 ls1 r1 x1 p1 t1⟩
/-- for i, x in enumerate(list) -/
theorem wb_forE (h : WD K ta δ M fun es M1 => ∃ ds, es = [.list ds] ∧ turns K n g tb (enumD 0 ds) δ M1 P) : WB K n (tFor (iEnum K ta) g tb) δ M P := fun e σ H Hd ls W hn r k1 k2 k3 k4 =>
  h σ H Hd ls _ r.sta fun vs es M1 H1 Hd1 a1 s1 dv h1 => by
    obtain ⟨ds, rfl, ht⟩ := h1
    cases dv with
    | cons d1 d2 =>
      cases d2
      cases d1 with
      | lst hq da =>
        rename_i a xs
        refine ⟨a, xs, rfl, ex_l a1.sub hq, ?_⟩
        refine enum_turns hn (r.go a1 s1) (fun i H' hi x => ?_) (fun H' x => ⟨xs, ex_l x hq, Nat.le_of_eq da.length⟩) (fun i H' x H2 hi ex y => ?_) ht (fun δ' M' σ' H' Hd' ls' r' x' => k1 δ' M' σ' H' Hd' ls' r' (s1.ext.trans x')) (fun v d δ' M' σ' H' Hd' ls' r' x' => k2 v d δ' M' σ' H' Hd' ls' r' (s1.ext.trans x'))
        · exact ⟨xs, xs[i]'(by rw [da.length]; exact hi), ex_l x hq, by simp [da.length, hi]⟩
        · obtain ⟨T, y', rfl, hT, rfl, hg⟩ := y
          obtain ⟨d, hd, dd⟩ := da.get (hg xs (ex_l ex hq))
          exact ⟨T, y', d, rfl, hT, rfl, hd, dd⟩
end
end PW

set_option Elab.async false
set_option linter.all false
set_option maxRecDepth 100000
set_option maxHeartbeats 2000000
namespace PW
open PySem L2 Evl PySem.Spec PyProof.Rows
theorem pg_tupK {X : Cx} {K : Fg} {es : List Expr} {k : Nat} {t : TGs} {pos : Pos} (n : Nat) (h : X.K = K) (hc : X.calm = true) (hs : PGs X es t)
    (hn : (assignEach es X.env).length = n := by rfl) (hst : (assignEach es X.env).findIdx? (·.1) = none := by rfl) : PG X (.Tuple es k pos) (gTup K n t) := by
  subst h
  exact pg_tup hc hs hn hst
theorem lstK {X : Cx} {K : Fg} (h : X.K = K) : CallR X (.type "list") (rLstD K) := h ▸ call_list_of
theorem slTK {X : Cx} {K : Fg} (h : X.K = K) : SlR X (rSlA K) := h ▸ sl_tupA
theorem catTK {X : Cx} {K : Fg} (h : X.K = K) : OpR X (binaryOp .Add) (rCatA K) := h ▸ op_catA
theorem eqK {X : Cx} {K : Fg} (h : X.K = K) (hu : X.A.units + 64 < cLine) : OpR X (compareOp .Eq) (rEqD K) := h ▸ op_eqD hu
theorem neK {X : Cx} {K : Fg} (h : X.K = K) (hu : X.A.units + 64 < cLine) : OpR X (compareOp .NotEq) (rNeD K) := h ▸ op_neD hu
end PW

set_option Elab.async false
set_option linter.all false
set_option maxRecDepth 100000
set_option maxHeartbeats 2000000
namespace PW
open PySem L2 Evl PySem.Spec PySem.Calls PyProof.Rows
theorem vals_rep {ys : List V} {its : List Value} (h : Vals ys its) : ∀ k : Nat, Vals (List.replicate k ys).flatten (List.replicate k its).flatten
  | 0 => .nil
  | k + 1 => by
    rw [List.replicate_succ, List.replicate_succ, List.flatten_cons, List.flatten_cons]
    exact h.append (vals_rep h k)
theorem dpa_rep {K : Fg} {H : Hp} {vs : List V} {ds : List D} (h : DpAll K H vs ds) : ∀ k : Nat, DpAll K H (List.replicate k vs).flatten (List.replicate k ds).flatten
  | 0 => .nil
  | k + 1 => by
    rw [List.replicate_succ, List.replicate_succ, List.flatten_cons, List.flatten_cons]
    exact h.app (dpa_rep h k)
theorem rep_len {α : Type} (ns : List α) (k : Nat) : (List.replicate k ns).flatten.length = ns.length * k := by
  induction k with
  | zero => rfl
  | succ k ih =>
    rw [List.replicate_succ, List.flatten_cons, List.length_append, ih, Nat.mul_succ]
    omega
section
variable {X : Cx}
def rRepS (K : Fg) : R2 := fun x y H Q => ∃ l xs n, x = .ref l ∧ y = .int n ∧ SqL K H l xs ∧ 0 ≤ n ∧ n ≤ 1000 ∧ xs.length * n.toNat ≤ 1000 ∧ ∀ p, H p = none → Q (.ref p) (upd H p (.lst (List.replicate n.toNat xs).flatten))
theorem op_repS : OpR X (binaryOp .Mult) (rRepS X.K) := by
  intro pins s σ H x y v u Q I rx ry h
  obtain ⟨l, xs, n, rfl, rfl, hl, hn0, hn1, hz, q⟩ := h
  cases rx
  obtain ⟨tk, rfl⟩ := ry
  obtain ⟨i1, r1, p1, z1⟩ := I.list hl
  have l1 := r1.length
  obtain ⟨⟨c1, dd1, da1, sl1⟩, n1, e1, hc1, hd1, ha1⟩ := p1
  simp only at hc1 hd1 ha1
  subst hc1 hd1 ha1
  have hz' : i1.toArray.size * n.toNat ≤ 1000 := by simp only [List.size_toArray]; rw [← l1]; exact hz
  refine wpAny_binaryOp_repeat_ref (T := "list") (U := "int") (by decide) ⟨_, e1, rfl⟩ (fun s' => typeIs_int s' _ _) noFill_list_mul F.fills_int_mul F.slot_int_rmul repeat_list F.slot_int_index.lookup
    (call_meets F.slot_int_rmul (typeIs_int s _ _) F.entry_int_rmul (F.args_int_rmul_2 _ _) (lm_int_rmul_list_any _ _ l i1.toArray _ _ sl1)
      ⟨e1, rfl, ⟨_, e1, rfl⟩, call_meets F.slot_list_mul ⟨_, e1, rfl⟩ F.entry_list_mul (F.args_list_mul_2 _ _)
        (lm_list_mul_any l i1.toArray _ _ sl1 _ _ (by simp [Builtin.List.listFitsIndex]; omega) (by omega) (by simp only [Builtin.List.listTooLong, decide_eq_true_eq]; rw [sizeLine_eq]; omega))
        ⟨e1, ?_⟩⟩)
  rw [listMul_foldl_if]
  exact ⟨.ref _, _, I.lnew (t' := s.toks) (vals_rep r1 _) (by rw [rep_len]; have := lt_ok (n := 1001) rfl; omega), rfl, q _ I.fresh⟩
end
section
variable {K : Fg}
theorem ol_rep {xs : List D} {n : Int} {RL : List D → Prop} (h0 : 0 ≤ n) (h1 : n ≤ 1000) (hz : xs.length * n.toNat ≤ 1000) (q : RL (List.replicate n.toNat xs).flatten) : OL K (rRepS K) (.list xs) (.int n) RL := fun H Hd v w Q ex dx dy k => by
  cases dy
  cases dx with
  | lst ha hx => exact ⟨_, _, _, rfl, rfl, ex_l ex ha, h0, h1, by rw [hx.length]; exact hz, fun p hp => k p _ _ hp (dpa_rep hx _) q⟩
end
end PW

set_option Elab.async false
set_option linter.all false
set_option maxRecDepth 100000
set_option maxHeartbeats 2000000
/-! list(zip(xs, ys)) of two lists; every second item of a list -/
namespace PW
open PySem PySem.Calls PyProof.Rows PySem.W PySem.Spec
/-- where the walk of a zip stands -/
def ZSt (z TI TO i1 i2 l1 l2 S : Addr) (xs ys : Array Value) (i : Nat) (h : Heap) : Prop :=
  IsPair h TI (.ref i1) (.ref i2) ∧ h.IsListIter i1 l1 i ∧ h.IsListIter i2 l2 i ∧ h.IsList l1 xs ∧ h.IsList l2 ys ∧
  ((IsZip h z TI TO .none ∧ ∃ a b, IsPair h TO a b) ∨ ∃ T f oT, IsZipHeld h z TI TO T f ∧ h.get? T = some oT ∧ T ≠ z ∧ T ≠ i1 ∧ T ≠ i2 ∧ T ≠ S)
structure ZOff (z TI TO i1 i2 l1 l2 S : Addr) : Prop where
  z : z ≠ S
  TI : TI ≠ S
  TO : TO ≠ S
  i1 : i1 ≠ S
  i2 : i2 ≠ S
  l1 : l1 ≠ S
  l2 : l2 ≠ S
section
variable {z TI TO i1 i2 l1 l2 S : Addr} {xs ys : Array Value}
theorem ZSt.keep {i : Nat} {h h' : Heap} (st : ZSt z TI TO i1 i2 l1 l2 S xs ys i h) (O : ZOff z TI TO i1 i2 l1 l2 S) (hk : ∀ b o, b ≠ S → h.get? b = some o → h'.get? b = some o) : ZSt z TI TO i1 i2 l1 l2 S xs ys i h' := by
  obtain ⟨hTI, h1, h2, hl1, hl2, hz⟩ := st
  refine ⟨hk _ _ O.TI hTI, h1.at fun o e => hk _ o O.i1 e, h2.at fun o e => hk _ o O.i2 e, hl1.at fun o e => hk _ o O.l1 e, hl2.at fun o e => hk _ o O.l2 e, ?_⟩
  rcases hz with ⟨hz, a, b, hTO⟩ | ⟨T, f, oT, hz, hT, r1, r2, r3, r4⟩
  · exact .inl ⟨hk _ _ O.z hz, a, b, hk _ _ O.TO hTO⟩
  · exact .inr ⟨T, f, oT, hk _ _ O.z hz, hk _ _ r4 hT, r1, r2, r3, r4⟩
structure KzG (xs ys : Array Value) (lo : Addr) (h : Heap) (as : List Addr) : Prop where
  rise : as.Pairwise (· < ·)
  above : ∀ a ∈ as, lo < a
  pairs : ∀ (j : Nat) (a : Addr), as[j]? = some a → ∃ x y, xs[j]? = some x ∧ ys[j]? = some y ∧ h.get? a = some { cls := .type "tuple", data := .seq #[x, y] }
theorem KzG.there {lo : Addr} {h : Heap} {as : List Addr} (g : KzG xs ys lo h as) {a : Addr} (ha : a ∈ as) : a < h.objs.size := by
  obtain ⟨j, hj⟩ := List.mem_iff_getElem?.mp ha
  obtain ⟨_, _, _, _, e⟩ := g.pairs j a hj
  exact Heap.lt_size e
variable {prog : Program} {w : World} {A : Around} {E : Value → Shared → Prop} {s : Shared}
theorem kz_item {i : Nat} {x y : Value} {Q : Option Value → Shared → Prop} (D : ZipApart z TI TO i1 i2 l1 l2) (st : ZSt z TI TO i1 i2 l1 l2 S xs ys i s.heap) (hS : S < s.heap.objs.size) (ex : xs[i]? = some x) (ey : ys[i]? = some y)
    (hQ : ∀ h', ZSt z TI TO i1 i2 l1 l2 S xs ys (i + 1) h' → h'.get? s.heap.objs.size = some { cls := .type "tuple", data := .seq #[x, y] } → h'.objs.size = s.heap.objs.size + 1 →
      (∀ b o, b ≠ z → b ≠ TO → b ≠ i1 → b ≠ i2 → s.heap.get? b = some o → h'.get? b = some o) → Q (some (.ref s.heap.objs.size)) { s with heap := h' }) : wpAny (model prog w) A (pyNext (.ref z)) Q E s := by
  obtain ⟨hTI, h1, h2, hl1, hl2, hz⟩ := st
  have lt : ∀ {c o}, s.heap.get? c = some o → s.heap.objs.size ≠ c := fun e => Nat.ne_of_gt (Heap.lt_size e)
  have n1 : s.heap.objs.size ≠ i1 := let ⟨_, e, _⟩ := h1; lt e
  have n2 : s.heap.objs.size ≠ i2 := let ⟨_, e, _⟩ := h2; lt e
  rcases hz with ⟨hz, a, b, hTO⟩ | ⟨T, f, oT, hz, hT, r1, r2, r3, r4⟩
  · refine wpAny_pyNext_zip_item D hz hTI hTO h1 h2 hl1 hl2 ex ey fun h' a1 a2 a3 a4 a5 a6 hk => ?_
    exact hQ h' ⟨hk _ _ D.TIz D.TITO D.TIi1 D.TIi2 hTI, a3, a4, hl1.at fun o e => hk _ o D.l1z D.l1TO D.l1i1 D.l1i2 e, hl2.at fun o e => hk _ o D.l2z D.l2TO D.l2i1 D.l2i2 e,
      .inr ⟨s.heap.objs.size, false, _, a1, a5, lt hz, n1, n2, Nat.ne_of_gt hS⟩⟩ a5 a6 hk
  · refine wpAny_pyNext_zip_item_held D hz hT hTI h1 h2 hl1 hl2 ex ey fun h' a1 a3 a4 a5 a6 hk => ?_
    exact hQ h' ⟨hk _ _ D.TIz D.TIi1 D.TIi2 hTI, a3, a4, hl1.at fun o e => hk _ o D.l1z D.l1i1 D.l1i2 e, hl2.at fun o e => hk _ o D.l2z D.l2i1 D.l2i2 e,
      .inr ⟨T, true, oT, a1, hk _ _ r1 r2 r3 hT, r1, r2, r3, r4⟩⟩ a5 a6 fun b o c1 _ c3 c4 e => hk b o c1 c3 c4 e
theorem kz_done {i : Nat} {Q : Option Value → Shared → Prop} (hh : A.handled = none) (D : ZipApart z TI TO i1 i2 l1 l2) (st : ZSt z TI TO i1 i2 l1 l2 S xs ys i s.heap) (hend : xs[i]? = none ∨ ys[i]? = none)
    (hQ : ∀ h', (∀ b o, b ≠ z → b ≠ TO → b ≠ i1 → b ≠ i2 → s.heap.get? b = some o → h'.get? b = some o) → Q none { s with heap := h' }) : wpAny (model prog w) A (pyNext (.ref z)) Q E s := by
  obtain ⟨hTI, h1, h2, hl1, hl2, hz⟩ := st
  rcases hz with ⟨hz, a, b, hTO⟩ | ⟨T, f, oT, hz, hT, r1, r2, r3, r4⟩
  · exact wpAny_pyNext_zip_end hh D hz hTI hTO h1 h2 hl1 hl2 hend hQ
  · exact wpAny_pyNext_zip_end_held hh D hz hT hTI h1 h2 hl1 hl2 hend fun h' hk => hQ h' fun b o c1 _ c3 c4 e => hk b o c1 c3 c4 e
end
/-- what a zip writes on -/
abbrev ZW (z TO i1 i2 b : Addr) : Prop := b ≠ z ∧ b ≠ TO ∧ b ≠ i1 ∧ b ≠ i2
section
variable {z TI TO i1 i2 l1 l2 S : Addr} {xs ys : Array Value} {prog : Program} {w : World} {A : Around} {E : Value → Shared → Prop} {s : Shared} {R : Result → Shared → Prop}
theorem kz_loop {n : Nat} (hn0 : n = min xs.size ys.size) (hh : A.handled = none) (D : ZipApart z TI TO i1 i2 l1 l2) (O : ZOff z TI TO i1 i2 l1 l2 S) (hlt : z < S ∧ TO < S ∧ i1 < S ∧ i2 < S) (hn : n ≤ sizeLine) (res : Value) {h₁ : Heap}
    (hR : ∀ h' tk acc c as, (∀ b o, b ≠ S → ZW z TO i1 i2 b → h₁.get? b = some o → h'.get? b = some o) → h'.get? S = some { cls := .type "list", dict := none, data := .seq acc c, slots := #[] } → as.length = n → KzG xs ys S h' as →
      acc.toList = as.map Value.ref → R (.ok (.ret res)) { s with heap := h', toks := tk }) :
    ∀ (k i : Nat) (h : Heap) (tk c : Nat) (acc : Array Value) (as : List Addr), n - i = k → i ≤ n → ZSt z TI TO i1 i2 l1 l2 S xs ys i h → (∀ b o, b ≠ S → ZW z TO i1 i2 b → h₁.get? b = some o → h.get? b = some o) →
      h.get? S = some { cls := .type "list", dict := none, data := .seq acc c, slots := #[] } → acc.toList = as.map Value.ref → as.length = i → KzG xs ys S h as →
      codeAny (model prog w) A (.builtin "list.extend.loop" ⟨[.ref S, .ref z, res], []⟩) R { s with heap := h, toks := tk } := by
  obtain ⟨z1, z2, z3, z4⟩ := hlt
  have zwS : ZW z TO i1 i2 S := ⟨O.z.symm, O.TO.symm, O.i1.symm, O.i2.symm⟩
  have zwA : ∀ {b : Addr}, S < b → ZW z TO i1 i2 b := fun hb => ⟨Nat.ne_of_gt (Nat.lt_trans z1 hb), Nat.ne_of_gt (Nat.lt_trans z2 hb), Nat.ne_of_gt (Nat.lt_trans z3 hb), Nat.ne_of_gt (Nat.lt_trans z4 hb)⟩
  intro k
  induction k with
  | zero =>
    intro i h tk c acc as hk hi hst hkeep hS hacc hal hG
    have hin : i = n := by omega
    refine codeAny_builtin PySem.F.entry_extend_loop ?_
    rw [Around.under_plainId PySem.F.plain_extend_loop _]
    show wpAny _ A.in1 (pyNext (.ref z) >>= _) _ _ _
    have hend : xs[i]? = none ∨ ys[i]? = none := by
      rcases Nat.le_total xs.size ys.size with h | h
      · exact .inl (Array.getElem?_eq_none (by omega))
      · exact .inr (Array.getElem?_eq_none (by omega))
    refine wpAny_bind (kz_done (s := { s with heap := h, toks := tk }) (A := A.in1) hh D hst hend fun h' he => ?_)
    refine wpAny_pure (hR h' tk acc c as (fun b o h1 h2 e => he b o h2.1 h2.2.1 h2.2.2.1 h2.2.2.2 (hkeep b o h1 h2 e)) (he S _ zwS.1 zwS.2.1 zwS.2.2.1 zwS.2.2.2 hS) (by omega) ⟨hG.rise, hG.above, fun j a hj => ?_⟩ hacc)
    obtain ⟨x, y, e1, e2, e3⟩ := hG.pairs j a hj
    have za := zwA (hG.above a (List.mem_of_getElem? hj))
    exact ⟨x, y, e1, e2, he a _ za.1 za.2.1 za.2.2.1 za.2.2.2 e3⟩
  | succ k ih =>
    intro i h tk c acc as hk hi hst hkeep hS hacc hal hG
    have hix : i < xs.size := by omega
    have hiy : i < ys.size := by omega
    have hsz : acc.size = i := by rw [← Array.length_toList, hacc, List.length_map, hal]
    refine codeAny_builtin PySem.F.entry_extend_loop ?_
    rw [Around.under_plainId PySem.F.plain_extend_loop _]
    show wpAny _ A.in1 (pyNext (.ref z) >>= _) _ _ _
    refine wpAny_bind (kz_item (s := { s with heap := h, toks := tk }) (S := S) D hst (Heap.lt_size hS) (Array.getElem?_eq_getElem hix) (Array.getElem?_eq_getElem hiy) fun h' hst' ht hz hkp => ?_)
    dsimp only at ht hz hkp ⊢
    have hS' := hkp S _ zwS.1 zwS.2.1 zwS.2.2.1 zwS.2.2.2 hS
    have up : ∀ b o, b ≠ S → h'.get? b = some o → (h'.update S (Obj.mapSeq (·.push (Value.ref h.objs.size)))).get? b = some o := fun b o hb e => (Heap.get?_update_other _ _ (Ne.symm hb)).trans e
    have hSl : S < h.objs.size := Heap.lt_size hS
    show wpAny _ A.in1 (updateSeq S (·.push (Value.ref h.objs.size)) >>= _) _ _ _
    refine wpAny_bind ?_
    refine wpAny_updateSeq hS' rfl (wpAny_pure ⟨plainId_quiet PySem.F.plain_extend_loop _, ih (i + 1) _ tk _ (acc.push (Value.ref h.objs.size)) (as ++ [h.objs.size]) (by omega) (by omega) (hst'.keep O up)
      (fun b o h1 h2 e => up b o h1 (hkp b o h2.1 h2.2.1 h2.2.2.1 h2.2.2.2 (hkeep b o h1 h2 e))) (Heap.get?_update_self _ hS' rfl) (by rw [Array.toList_push, hacc, List.map_append]; rfl) (by rw [List.length_append, hal]; rfl) ⟨?_, ?_, ?_⟩⟩) (by rw [hsz]; omega) (by show (acc.push (Value.ref h.objs.size)).size ≤ sizeLine + 1; rw [Array.size_push, hsz]; omega)
    · refine List.pairwise_append.mpr ⟨hG.rise, List.pairwise_singleton _ _, fun a ha b hb => ?_⟩
      rw [List.mem_singleton.mp hb]
      exact hG.there ha
    · intro a ha
      rcases List.mem_append.mp ha with ha | ha
      · exact hG.above a ha
      · rw [List.mem_singleton.mp ha]; exact hSl
    · intro j b hj
      rcases Nat.lt_trichotomy j as.length with h1 | h1 | h1
      · rw [List.getElem?_append_left h1] at hj
        obtain ⟨x', y', e1, e2, e3⟩ := hG.pairs j b hj
        have hb := hG.above b (List.mem_of_getElem? hj)
        have zb := zwA hb
        exact ⟨x', y', e1, e2, up b _ (Nat.ne_of_gt hb) (hkp b _ zb.1 zb.2.1 zb.2.2.1 zb.2.2.2 e3)⟩
      · subst h1
        have hb : h.objs.size = b := by simpa using hj
        subst hb
        exact ⟨_, _, by rw [hal]; exact Array.getElem?_eq_getElem hix, by rw [hal]; exact Array.getElem?_eq_getElem hiy, up _ _ (Nat.ne_of_gt hSl) ht⟩
      · have hnone : (as ++ [h.objs.size])[j]? = none := List.getElem?_eq_none (by rw [List.length_append, List.length_singleton]; omega)
        rw [hnone] at hj; cases hj
theorem zip_nolen : typeLookup (.type "zip") "__len__" = pure none := by rw [typeLookup_type, builtinLookup_eq_fast]; kernel_rfl
theorem zip_nohint : typeLookup (.type "zip") "__length_hint__" = pure none := by rw [typeLookup_type, builtinLookup_eq_fast]; kernel_rfl
theorem kz_hint {Q : Bool → Shared → Prop} (hT : s.TypeIs (.ref z) "zip") (h : Q true s) : wpAny (model prog w) A (Builtin.List.listLengthHint (.ref z)) Q E s := by
  unfold Builtin.List.listLengthHint
  refine wpAny_bind (wpAny_specialOf hT zip_nolen ?_)
  show wpAny _ _ (specialOf (Value.ref z) (Str.ofString "__length_hint__") >>= _) _ _ _
  refine wpAny_bind (wpAny_specialOf hT zip_nohint ?_)
  exact wpAny_pure h
theorem kz_extend (hh : A.handled = none) (D : ZipApart z TI TO i1 i2 l1 l2) (O : ZOff z TI TO i1 i2 l1 l2 S) (hlt : z < S ∧ TO < S ∧ i1 < S ∧ i2 < S) (hst : ZSt z TI TO i1 i2 l1 l2 S xs ys 0 s.heap) (hz0 : IsZip s.heap z TI TO .none) (res : Value) (c₀ : Nat)
    (hS : s.heap.get? S = some { cls := .type "list", data := .seq #[] c₀ })
    (hR : ∀ h' tk acc c as, (∀ b o, b ≠ S → ZW z TO i1 i2 b → s.heap.get? b = some o → h'.get? b = some o) → h'.get? S = some { cls := .type "list", dict := none, data := .seq acc c, slots := #[] } → as.length = min xs.size ys.size → KzG xs ys S h' as →
      acc.toList = as.map Value.ref → R (.ok (.ret res)) { s with heap := h', toks := tk }) (hn : min xs.size ys.size ≤ sizeLine) :
    wpAny (model prog w) A.in1 (Builtin.List.listExtendWith (.ref S) (.ref z) res)
      (fun fin s' => match fin with | .done f => R (.ok f) s' | .again c' => c'.quiet = true ∧ codeAny (model prog w) A c' R s') (fun e s' => R (.error e) s') s := by
  have hT : s.TypeIs (.ref z) "zip" := ⟨_, hz0, rfl⟩
  unfold Builtin.List.listExtendWith
  refine wpAny_bind (wpAny_typeOf (T := "zip") hT ?_)
  have h1 : Builtin.List.listSameRef (.ref S) (.ref z) = false := by simp [Builtin.List.listSameRef, O.z.symm]
  have h2 : (Value.type "zip" == Value.type "list") = false := by decide
  have h3 : (Value.type "zip" == Value.type "tuple") = false := by decide
  simp only [h1, h2, h3, Bool.or_false, Bool.false_eq_true, if_false]
  refine wpAny_bind (wpAny_pyIter_zip hz0 ?_)
  refine wpAny_bind (wpAny_holding (kz_hint hT ?_))
  refine wpAny_ite_split (fun _ => ?_) (fun hab => absurd rfl hab)
  refine wpAny_bind (wpAny_rule ?_)
  refine wpAny_bind ?_
  show wpAny _ _ (updateSeq S (·.push .none) >>= fun _ => updateSeq S (·.pop)) _ _ _
  refine wpAny_bind (wpAny_updateSeq hS rfl ?_)
  have hS₂ := Heap.get?_update_self (Obj.mapSeq (·.push Value.none)) hS rfl
  refine wpAny_updateSeq (hz := by seq_fits) hS₂ rfl ?_
  have hS₃ := Heap.get?_update_self (Obj.mapSeq (·.pop)) hS₂ rfl
  have oth : ∀ b o, b ≠ S → s.heap.get? b = some o → ((s.heap.update S (Obj.mapSeq (·.push Value.none))).update S (Obj.mapSeq (·.pop))).get? b = some o := fun b o hb e =>
    (Heap.get?_update_other _ _ (Ne.symm hb)).trans ((Heap.get?_update_other _ _ (Ne.symm hb)).trans e)
  refine wpAny_pure ⟨plainId_quiet PySem.F.plain_extend_loop _, ?_⟩
  exact kz_loop (h₁ := s.heap) rfl hh D O hlt hn res hR _ 0 _ _ _ #[] [] (Nat.sub_zero _) (Nat.zero_le _) (hst.keep O oth) (fun b o hb _ e => oth b o hb e) hS₃ rfl rfl
    ⟨List.Pairwise.nil, (fun _ ha => nomatch ha), (fun j a hj => by simp at hj)⟩
theorem kz_call {Q : Value → Shared → Prop} {a b : Value} (hh : A.handled = none) (D : ZipApart z TI TO i1 i2 l1 l2) (hz : IsZip s.heap z TI TO .none) (hTI : IsPair s.heap TI (.ref i1) (.ref i2)) (hTO : IsPair s.heap TO a b)
    (h1 : s.heap.IsListIter i1 l1 0) (h2 : s.heap.IsListIter i2 l2 0) (hl1 : s.heap.IsList l1 xs) (hl2 : s.heap.IsList l2 ys) (hn : min xs.size ys.size ≤ sizeLine)
    (hQ : ∀ h' tk acc c as, (∀ b o, ZW z TO i1 i2 b → s.heap.get? b = some o → h'.get? b = some o) → h'.get? s.heap.objs.size = some { cls := .type "list", dict := none, data := .seq acc c, slots := #[] } → as.length = min xs.size ys.size → KzG xs ys s.heap.objs.size h' as →
      acc.toList = as.map Value.ref → Q (.ref s.heap.objs.size) { s with heap := h', toks := tk }) :
    wpAny (model prog w) A (call (.type "list") [.ref z]) Q E s := by
  have lz : z < s.heap.objs.size := Heap.lt_size hz
  have lTI : TI < s.heap.objs.size := Heap.lt_size hTI
  have lTO : TO < s.heap.objs.size := Heap.lt_size hTO
  have li1 : i1 < s.heap.objs.size := let ⟨_, e, _⟩ := h1; Heap.lt_size e
  have li2 : i2 < s.heap.objs.size := let ⟨_, e, _⟩ := h2; Heap.lt_size e
  have ll1 : l1 < s.heap.objs.size := let ⟨_, e, _⟩ := hl1; Heap.lt_size e
  have ll2 : l2 < s.heap.objs.size := let ⟨_, e, _⟩ := hl2; Heap.lt_size e
  have O : ZOff z TI TO i1 i2 l1 l2 s.heap.objs.size := ⟨Nat.ne_of_lt lz, Nat.ne_of_lt lTI, Nat.ne_of_lt lTO, Nat.ne_of_lt li1, Nat.ne_of_lt li2, Nat.ne_of_lt ll1, Nat.ne_of_lt ll2⟩
  refine callType_codes (Q₁ := fun obj s₁ => obj = .ref s.heap.objs.size ∧ s₁ = { s with heap := s.heap.push { cls := .type "list", data := .seq #[] } }) PySem.F.called_list (PySem.F.typeCall_list_1 _) PySem.F.entry_list_init
    (code_list_new _ ⟨rfl, rfl⟩) fun obj s₁ h₁ => ?_
  obtain ⟨rfl, rfl⟩ := h₁
  have hS : (s.heap.push { cls := .type "list", data := .seq #[] }).get? s.heap.objs.size = some { cls := .type "list", data := .seq #[] } := Heap.get?_push_size _ rfl
  refine ⟨⟨_, hS, rfl⟩, PySem.F.args_list_init_2 _ _, ?_⟩
  show wpAny _ _ (do let old ← Builtin.List.listItems (.ref s.heap.objs.size); Builtin.List.listUpdate (.ref s.heap.objs.size) (fun _ => #[]); letGo old.toList.reverse; Builtin.List.listExtendWith (.ref s.heap.objs.size) (.ref z) .none) _ _ _
  refine wpAny_bind ?_
  unfold Builtin.List.listItems
  refine wpAny_bind (wpAny_seqItems hS rfl (wpAny_pure ?_))
  show wpAny _ _ (updateSeq s.heap.objs.size (fun _ => #[]) >>= fun _ => letGo (#[] : Array Value).toList.reverse >>= fun _ => Builtin.List.listExtendWith (.ref s.heap.objs.size) (.ref z) .none) _ _ _
  refine wpAny_bind (wpAny_updateSeq hS rfl ?_)
  have hS₂ := Heap.get?_update_self (Obj.mapSeq (fun _ => (#[] : Array Value))) hS rfl
  have oth : ∀ b o, b ≠ s.heap.objs.size → s.heap.get? b = some o → ((s.heap.push { cls := .type "list", data := .seq #[] }).update s.heap.objs.size (Obj.mapSeq (fun _ => (#[] : Array Value)))).get? b = some o :=
    fun b o hb e => (Heap.get?_update_other _ _ (Ne.symm hb)).trans (Heap.get?_push_of_some _ e)
  refine wpAny_bind (wpAny_letGo ?_)
  have st0 : ZSt z TI TO i1 i2 l1 l2 s.heap.objs.size xs ys 0 s.heap := ⟨hTI, h1, h2, hl1, hl2, .inl ⟨hz, _, _, hTO⟩⟩
  refine kz_extend (A := A.in1) (s := { s with heap := _ }) hh D O ⟨lz, lTO, li1, li2⟩ (st0.keep O oth) (oth _ _ O.z hz) .none _ hS₂ (fun h' tk acc c as hk hS' hl hG hacc => ?_) hn
  exact ⟨rfl, hQ h' tk acc c as (fun b o hb e => hk b o (Nat.ne_of_lt (Heap.lt_size e)) hb (oth b o (Nat.ne_of_lt (Heap.lt_size e)) e)) hS' hl hG hacc⟩
end
end PW

set_option Elab.async false
set_option linter.all false
set_option maxRecDepth 100000
set_option maxHeartbeats 2000000
namespace PW
open PySem PySem.Spec PyProof.Rows L2 HT Evl
/-- the pairs tracked at their addresses -/
def putP : Hp → List Addr → List (V × V) → Hp
  | H, a :: as, p :: kvs => putP (upd H a (.tup [p.1, p.2])) as kvs
  | H, _, _ => H
theorem putP_off {b : Addr} : ∀ (as : List Addr) (kvs : List (V × V)) (H : Hp), b ∉ as → putP H as kvs b = H b
  | [], _, _, _ => rfl
  | _ :: _, [], _, _ => rfl
  | a :: as, p :: kvs, H, h => by
    show putP (upd H a (.tup [p.1, p.2])) as kvs b = H b
    rw [putP_off as kvs _ (fun z => h (List.mem_cons_of_mem _ z)), upd_ne (fun z => h (by rw [z]; exact List.mem_cons_self))]
theorem putP_at : ∀ (as : List Addr) (kvs : List (V × V)) (H : Hp), as.length = kvs.length → as.Nodup → Paired (fun (t : Addr) (p : V × V) => putP H as kvs t = some (.tup [p.1, p.2])) as kvs
  | [], [], _, _, _ => .nil
  | [], _ :: _, _, h, _ => by cases h
  | _ :: _, [], _, h, _ => by cases h
  | a :: as, p :: kvs, H, h, hn => by
    have hn' := List.nodup_cons.mp hn
    have ih := putP_at as kvs (upd H a (.tup [p.1, p.2])) (Nat.succ.inj h) hn'.2
    refine .cons ?_ ih
    show putP (upd H a (.tup [p.1, p.2])) as kvs a = some (.tup [p.1, p.2])
    rw [putP_off as kvs _ hn'.1, upd_same]
section
variable {X : Cx} {e e2 : Expr} {te : TE} {ta : TA} {p p2 pos pos2 : Pos}
theorem pairs_laid {pins : List (Addr × Obj)} {σ : L2.St} {H : Hp} {s : Shared} {h' : Heap} {tk S : Nat} {xs ys : List V} {us vs : List Value} {acc : Array Value} {c : Nat} {as : List Addr} (I : Inv X pins σ H s) (hSz : s.heap.objs.size ≤ S) (hz : (xs.zip ys).length ≤ sizeLine) (rx : Vals xs us) (ry : Vals ys vs)
    (hk : ∀ b o, s.heap.get? b = some o → h'.get? b = some o) (hS : h'.get? S = some { cls := .type "list", dict := none, data := .seq acc c, slots := #[] }) (hl : as.length = (xs.zip ys).length) (hG : KzG us.toArray vs.toArray S h' as) (hacc : acc.toList = as.map Value.ref) :
    ∃ H' : Hp, (∀ b o, H b = some o → H' b = some o) ∧ H S = none ∧ (∀ t ∈ as, H t = none) ∧ S ∉ as ∧ as.Nodup ∧ H' S = some (.lst (as.map V.ref)) ∧ Paired (fun (t : Addr) (q : V × V) => H' t = some (.tup [q.1, q.2])) as (xs.zip ys) ∧ Inv X pins σ H' { s with heap := h', toks := tk } := by
  have hSn : S ∉ as := fun z => Nat.lt_irrefl _ (hG.above _ z)
  have nd : as.Nodup := List.Pairwise.imp (fun {a b} (h : a < b) => Nat.ne_of_lt h) hG.rise
  have new : ∀ t ∈ as, H t = none := fun t ht => I.hok.fresh (Nat.le_trans hSz (Nat.le_of_lt (hG.above t ht)))
  have newS : H S = none := I.hok.fresh hSz
  have atP := putP_at as (xs.zip ys) (upd H S (.lst (as.map V.ref))) hl nd
  have off : ∀ b, b ∉ as → b ≠ S → putP (upd H S (.lst (as.map V.ref))) as (xs.zip ys) b = H b := fun b h1 h2 => by rw [putP_off as _ _ h1, upd_ne h2]
  have low : ∀ b o, s.heap.get? b = some o → b ∉ as ∧ b ≠ S := fun b o e => ⟨fun z => absurd (Heap.lt_size e) (Nat.not_lt.mpr (Nat.le_trans hSz (Nat.le_of_lt (hG.above b z)))), fun z => absurd (Heap.lt_size e) (by rw [z]; exact Nat.not_lt.mpr hSz)⟩
  have kp : ∀ b u, H b = some u → (putP (upd H S (.lst (as.map V.ref))) as (xs.zip ys)) b = some u := fun b u e => by
    rw [off b (fun z => by rw [new b z] at e; cases e) (fun z => by rw [z, newS] at e; cases e)]
    exact e
  have eS : putP (upd H S (.lst (as.map V.ref))) as (xs.zip ys) S = some (.lst (as.map V.ref)) := by rw [putP_off as _ _ hSn, upd_same]
  refine ⟨putP (upd H S (.lst (as.map V.ref))) as (xs.zip ys), kp, newS, new, hSn, nd, eS, atP, ?_⟩
  refine I.call' (ch := []) rfl ⟨fun b o q _ _ _ => hk b o q, fun b o q _ _ _ => ⟨o.slots, hk b o q⟩, fun b o q n _ => ?_, fun b o q _ => ⟨o, hk b o q⟩, fun b xs q => kp b _ q, fun b o u q => kp b _ q, fun b ps q => ⟨#[], by rw [kp b _ q]; simp⟩⟩ (fun b u q => ?_) I.bare fun b z => by simp at z
  · obtain ⟨z1, z2⟩ := low b o q
    rw [off b z1 z2]
    exact n
  · by_cases hb : b ∈ as
    · obtain ⟨j, pk, e1, e2, e3⟩ := LiI.paired_ix atP hb
      rw [e3] at q
      cases q
      obtain ⟨x, y, f1, f2, f3⟩ := hG.pairs j b e1
      rw [List.getElem?_zip_eq_some] at e2
      obtain ⟨g1, r1⟩ := rx.get e2.1
      obtain ⟨g2, r2⟩ := ry.get e2.2
      simp only [List.getElem?_toArray] at f1 f2
      rw [r1.1] at f1; rw [r2.1] at f2
      cases f1; cases f2
      exact ⟨by show 2 ≤ sizeLine; decide, [_, _], .cons r1.2 (.cons r2.2 .nil), ⟨_, f3, rfl, _, rfl⟩⟩
    · by_cases hb2 : b = S
      · rw [hb2] at q ⊢
        rw [eS] at q
        cases q
        refine ⟨by rw [List.length_map]; omega, acc.toList, c, by rw [hacc]; exact LiI.vals_refs as, ?_⟩
        rw [Array.toArray_toList]
        exact hS
      · rw [off b hb hb2] at q
        exact (I.hok b u q).stay (fun d v _ y => hk d v y) (fun d y => kp d _ y) fun d xs y => kp d _ y
/-- list(zip(xs, ys)) -/
def tLZ (K : PySem.W.Frag) (ta : TA) : TE := fun σ H Q => ta σ H fun vs H1 => ∃ a b xs ys, vs = [.ref a, .ref b] ∧ SqL K H1 a xs ∧ SqL K H1 b ys ∧
  ∀ (H' : Hp) (p : Addr) (ts : List Addr), (∀ b o, H1 b = some o → H' b = some o) → H1 p = none → (∀ t ∈ ts, H1 t = none) → p ∉ ts → ts.Nodup → H' p = some (.lst (ts.map V.ref)) → Paired (fun (t : Addr) (q : V × V) => H' t = some (.tup [q.1, q.2])) ts (xs.zip ys) → Q (.ref p) H'
theorem pe_listZip (hc : X.calm = true) (hg : Gl X "list") (hm : X.mg "list" = none) (hv : bootBuiltins "list" = some (.type "list")) (hg2 : Gl X "zip") (hm2 : X.mg "zip" = none) (ha : PA X [e, e2] ta)
    (hs2 : starEach [e, e2] X.env = (false, eval e X.env) :: starEach [e2] X.env := by rfl) (hpl2 : (backTo pos2 (starEach [e2] X.env)).any (·.1) = false := by rfl)
    (hs : starEach [.Call (.Name "zip" p2) [e, e2] [] pos2] X.env = (false, eval (.Call (.Name "zip" p2) [e, e2] [] pos2) X.env) :: starEach [] X.env := by rfl) :
    PE X (.Call (.Name "list" p) [.Call (.Name "zip" p2) [e, e2] [] pos2] [] pos) (tLZ X.K ta) := by
  refine ⟨fun pins s σ H Q I hq => ?_⟩
  refine wpAny_Call_Name_kw (ld_blt I hg hm hv ?_)
  refine PyProof.Rows.callWith_type1 ?_ hs rfl
  rw [hs]
  show wpAny _ _ (spliced ((false, eval (.Call (.Name "zip" p2) [e, e2] [] pos2) X.env) :: backTo pos (starEach [] X.env))) _ _ s
  refine Calls.spliced_cons ?_
  refine Call_ (ld_blt I hg2 hm2 PyProof.Rows.boot_zip (PyProof.Rows.callWith_type1 (thn (ha.run pos2 pins s σ H _ I hq) fun us s1 ⟨vs, H1, I1, r1, q1⟩ => ?_) hs2 hpl2))
  obtain ⟨a, b, xs, ys, ex, hqx, hqy, q⟩ := q1
  subst ex
  cases r1 with
  | cons r rr =>
    cases rr with
    | cons r' rr =>
      cases rr
      cases r
      cases r'
      obtain ⟨its, rv, p1, hz1⟩ := I1.list hqx
      obtain ⟨its2, rv2, p2, hz2⟩ := I1.list hqy
      have la : a < s1.heap.objs.size := p1.lt
      have lb : b < s1.heap.objs.size := p2.lt
      have lx := rv.length
      have ly := rv2.length
      refine call_zip_2 p1.isList p2.isList fun h' hz hTI hTO h1 h2 hsz hk => ?_
      refine Calls.spliced_nil ?_
      have hmin : min its.toArray.size its2.toArray.size = (xs.zip ys).length := by rw [List.length_zip, List.size_toArray, List.size_toArray, lx, ly]
      refine kz_call (s := { s1 with heap := h' }) (I1.ok.hd hc) (PySem.W.ktu_apart s1.heap.objs.size a b la lb) hz hTI hTO h1 h2 (p1.isList.at fun o e => hk _ o e) (p2.isList.at fun o e => hk _ o e) (by rw [hmin, List.length_zip]; omega) fun h2' tk acc c as hk2 hS hl hG hacc => ?_
      rw [hmin] at hl
      have hk3 : ∀ b o, s1.heap.get? b = some o → h2'.get? b = some o := fun b o e => by
        have hb : b < s1.heap.objs.size := Heap.lt_size e
        have hlt : ∀ k : Nat, b ≠ s1.heap.objs.size + k := fun k => Nat.ne_of_lt (Nat.lt_of_lt_of_le hb (Nat.le_add_right _ _))
        exact hk2 b o ⟨hlt 4, hlt 3, hlt 0, hlt 1⟩ (hk b o e)
      obtain ⟨H', k1, k2, k3, k4, k5, k6, k7, J⟩ := pairs_laid (tk := tk) (S := h'.objs.size) I1 (by rw [hsz]; omega) (by rw [List.length_zip]; omega) rv rv2 hk3 hS hl hG hacc
      exact ⟨.ref _, H', J, rfl, q H' _ as k1 k2 k3 k4 k5 k6 k7⟩
end

/-! ### every second item -/
def evens {α : Type} : List α → List α
  | [] => []
  | [x] => [x]
  | x :: _ :: r => x :: evens r
theorem evens_range {α : Type} : ∀ l : List α, ((List.range ((l.length + 1) / 2)).filterMap fun k => l[2 * k]?) = evens l
  | [] => by simp [evens]
  | [x] => by simp [evens, List.range_succ]
  | x :: y :: r => by
    have e : ((x :: y :: r).length + 1) / 2 = (r.length + 1) / 2 + 1 := by simp only [List.length_cons]; omega
    rw [e, List.range_succ_eq_map, List.filterMap_cons]
    show x :: _ = x :: evens r
    rw [← evens_range r, List.filterMap_map]
    congr 1
theorem pick_evens (its : List Value) (lo : Option Int) (n : Nat) (h : (lo = none ∧ n = 0) ∨ lo = some (n : Int)) : slicePick its.toArray lo none (some 2) = (evens (its.drop n)).toArray := by
  have hb : sliceBounds lo none (some 2) its.toArray.size = (((min n its.length : Nat) : Int), ((its.length : Nat) : Int), 2) := by
    rcases h with ⟨rfl, rfl⟩ | rfl
    · simp [sliceBounds]
    · simp only [sliceBounds, Option.getD_some, show (2 : Int) > 0 by decide, if_true, List.size_toArray, show ¬ ((n : Int) < 0) by omega, if_false]
      refine Prod.ext ?_ rfl
      show max (0 : Int) (min (n : Int) (its.length : Int)) = ((min n its.length : Nat) : Int)
      omega
  unfold slicePick
  rw [hb]
  have hr : sliceRange ((min n its.length : Nat) : Int) ((its.length : Nat) : Int) 2 = (List.range (((its.drop n).length + 1) / 2)).map fun k => n + 2 * k := by
    unfold sliceRange
    simp only [show (2 : Int) > 0 by decide, if_true]
    rw [List.length_drop]
    by_cases hl : n < its.length
    · have e1 : min n its.length = n := by omega
      rw [e1, if_pos (by omega)]
      have e2 : (((its.length : Nat) : Int) - (n : Int) + 2 - 1) / 2 = (((its.length - n + 1) / 2 : Nat) : Int) := by omega
      rw [e2, Int.toNat_natCast]
      refine List.map_congr_left fun k _ => ?_
      omega
    · have e1 : min n its.length = its.length := by omega
      rw [e1, if_neg (by omega)]
      have e2 : (its.length - n + 1) / 2 = 0 := by omega
      rw [e2]
      rfl
  simp only [hr]
  rw [List.filterMap_map, ← evens_range]
  congr 2
  funext k
  show its.toArray[n + 2 * k]? = (its.drop n)[2 * k]?
  rw [List.getElem?_drop]
  simp
/-- xs[lo::2] -/
def tEv (K : PySem.W.Frag) (te : TE) (tl : TO) : TE := fun σ H Q => te σ H fun x H1 => tl σ H1 fun o H2 => ∃ a xs n, x = .ref a ∧ SqL K H2 a xs ∧ ((o = none ∧ n = 0) ∨ o = some ((n : Nat) : Int)) ∧ ∀ p, H2 p = none → Q (.ref p) (upd H2 p (.lst (evens (xs.drop n))))
theorem vals_evens : ∀ {xs : List V} {us : List Value}, Vals xs us → Vals (evens xs) (evens us)
  | _, _, .nil => .nil
  | _, _, .cons r .nil => .cons r .nil
  | _, _, .cons r (.cons _ t) => .cons r (vals_evens t)
theorem evens_len {α : Type} : ∀ l : List α, (evens l).length ≤ l.length
  | [] => Nat.le_refl _
  | [_] => Nat.le_refl _
  | x :: y :: r => by
    have := evens_len r
    simp only [evens, List.length_cons]
    omega
section
variable {X : Cx}
theorem pe_stepL {e : Expr} {te : TE} {lo : Option Expr} {tl : TO} {k : Nat} {p1 p3 pos : Pos} (he : PE X e te) (hl : PO X lo tl) : PE X (.Subscript e (.Slice lo none (some (.Constant (.int 2) k p1)) p3) pos) (tEv X.K te tl) := by
  refine ⟨fun pins s σ H Q I h => ?_⟩
  refine Subscript_ (thn (he.run pins s σ H _ I h) fun v s1 ⟨x, H1, I1, r1, q1⟩ => ?_)
  have hst : PO X (some (.Constant (.int 2) k p1)) (tPart (tC (.int 2))) := po_some pe_int
  refine wpAny_Slice (thn (hl.run pins s1 σ H1 _ I1 q1) fun vl s2 ⟨l, H2, I2, pl, q2⟩ => ?_)
  refine thn (po_none.run pins s2 σ H2 (fun o H3 => o = none ∧ H3 = H2) I2 ⟨rfl, rfl⟩) fun vu s3 ⟨u, H3, I3, pu, eu, e3⟩ => ?_
  subst eu e3
  refine thn (hst.run pins s3 σ H3 (fun o H4 => o = some 2 ∧ H4 = H3) I3 ⟨2, rfl, rfl, rfl⟩) fun vs s4 ⟨o, H4, I4, ps, eo, e4⟩ => ?_
  subst eo e4
  obtain ⟨a, xs, n, ex, hx, hn, q⟩ := q2
  subst ex
  cases r1
  have I5 : Inv X pins σ H4 { s4 with heap := s4.heap.push { cls := .type "slice", data := .fields #[vl, vu, vs] } } := I4.kept (t' := s4.toks) fun b ob q => Heap.get?_push_of_some _ q
  obtain ⟨its, r, ht, hz⟩ := I5.list hx
  have hlen := r.length
  show wpAny (model X.prog X.w) X.A (subscriptTail e (.Slice lo none (some (.Constant (.int 2) k p1)) p3) (.ref a) (.ref s4.heap.objs.size)) (EP X pins σ Q) X.xe { s4 with heap := s4.heap.push { cls := .type "slice", data := .fields #[vl, vu, vs] } }
  refine tail_any (ops := [.ref a, .ref s4.heap.objs.size]) ht.isList.typeIs (PySem.slot_list_getitem.lookup) ?_ (by with_unfolding_all rfl)
  refine wpAny_getItem_list_slice ht.isList (Heap.IsSliceOf.new _ vl vu vs) pl pu ps (by decide) ?_ (by rw [List.size_toArray]; omega)
  rw [pick_evens its l n hn]
  refine ⟨.ref _, _, I5.laid (t' := s4.toks) (o := .lst (evens (xs.drop n))) (fun b ob q => Heap.get?_push_of_some _ q) (Nat.le_refl _) ?_, rfl, q _ (I5.hok.fresh (Nat.le_refl _))⟩
  exact ⟨Nat.le_trans (evens_len _) (by rw [List.length_drop]; omega), _, 0, vals_evens (r.drop n), Heap.get?_push_size _ rfl⟩
end
/-! ### the same over data -/
theorem dpa_evens {K : Fg} {H : Hp} : ∀ {vs : List V} {ds : List D}, DpAll K H vs ds → DpAll K H (evens vs) (evens ds)
  | _, _, .nil => .nil
  | _, _, .cons h .nil => .cons h .nil
  | _, _, .cons h (.cons _ t) => .cons h (dpa_evens t)
section
variable {K : Fg} {δ : Dl} {M : Ms} {RL : List D → Ms → Prop} {te : TE} {tl : TO} {ta : TA}
theorem wl_ev (h : WE K te δ M fun d M1 => WO K tl δ M1 fun lo M2 => ∃ ds n, d = .list ds ∧ ((lo = none ∧ n = 0) ∨ lo = some ((n : Nat) : Int)) ∧ RL (evens (ds.drop n)) M2) : WL K (tEv K te tl) δ M RL := fun σ H Hd ls Q a k =>
  h σ H Hd ls _ a fun v d M1 H1 Hd1 a1 s1 dv h1 => h1 σ H1 Hd1 ls _ a1 fun lo M2 H2 Hd2 a2 s2 h2 => by
    obtain ⟨ds, n, rfl, hn, q⟩ := h2
    cases dv with
    | lst hs ha =>
      rename_i ad xs
      refine ⟨ad, xs, n, rfl, ex_l a2.sub (ex_l s2.ext hs), hn, fun p hp => ?_⟩
      have s12 := s1.trans s2
      refine k p _ _ M2 (upd H2 p (.lst (evens (xs.drop n)))) Hd2 (a2.up (step_new hp) fun b o e => ?_) (s12.trans (step_new hp).all) ?_ (fresh_hd a2.sub hp) (not_ls a2 hp) upd_same (dpa_evens ((ha.up s2.ext).drop n)) q
      · have := a2.sub b o e
        rw [upd_ne (ne_of_none this hp)]; exact this
      · cases e : H p with
        | none => rfl
        | some o => exact absurd hp (s12.there p (by rw [e]; simp))
def zipD (xs ys : List D) : List D := (xs.zip ys).map fun p => .tuple [p.1, p.2]
theorem paired_zip {Hd H' : Hp} {ts : List Addr} : ∀ {xs ys : List V} {ds es : List D} {us : List Addr}, (∀ t ∈ us, t ∈ ts) → DpAll K Hd xs ds → DpAll K Hd ys es → Paired (fun (t : Addr) (q : V × V) => H' t = some (.tup [q.1, q.2])) us (xs.zip ys) → (Hd2 : Hp) → Ex Hd Hd2 → (∀ t ∈ ts, Hd2 t = H' t) → DpAll K Hd2 (us.map V.ref) (zipD ds es)
  | [], ys, ds, es, us, hm, dx, dy, pr, Hd2, ex, e2 => by
    cases dx
    cases pr
    exact .nil
  | x :: xs, [], ds, es, us, hm, dx, dy, pr, Hd2, ex, e2 => by
    cases dy
    cases pr
    cases dx
    exact .nil
  | x :: xs, y :: ys, ds, es, us, hm, dx, dy, pr, Hd2, ex, e2 => by
    cases dx with
    | cons d1 d2 =>
      cases dy with
      | cons f1 f2 =>
        cases pr with
        | cons p1 p2 =>
          rename_i t us'
          refine .cons ?_ (paired_zip (fun t ht => hm t (by simp [ht])) d2 f2 p2 Hd2 ex e2)
          have ht := e2 t (hm t (by simp))
          exact .tup (SqT.of (ht.trans p1)) (.cons (d1.up ex) (.cons (f1.up ex) .nil))
theorem wl_lz (h : WD K ta δ M fun ds M1 => ∃ xs ys, ds = [.list xs, .list ys] ∧ RL (zipD xs ys) M1) : WL K (tLZ K ta) δ M RL := fun σ H Hd ls Q a k =>
  h σ H Hd ls _ a fun vs ds M1 H1 Hd1 a1 s1 da h1 => by
    obtain ⟨xd, yd, rfl, q⟩ := h1
    cases da with
    | cons d1 d2 =>
      cases d2 with
      | cons d2 d3 =>
        cases d3
        cases d1 with
        | lst hs1 ha1 =>
          cases d2 with
          | lst hs2 ha2 =>
            rename_i ad1 xs ad2 ys
            refine ⟨ad1, ad2, xs, ys, rfl, ex_l a1.sub hs1, ex_l a1.sub hs2, fun H' p ts k1 k2 k3 k4 k5 k6 k7 => ?_⟩
            have hdt : ∀ t ∈ ts, Hd1 t = none := fun t ht => fresh_hd a1.sub (k3 t ht)
            let Hd2 : Hp := fun b => if b ∈ ts then H' b else Hd1 b
            have e2 : ∀ t ∈ ts, Hd2 t = H' t := fun t ht => if_pos ht
            have ex2 : Ex Hd1 Hd2 := fun b o e => by
              show (if b ∈ ts then H' b else Hd1 b) = some o
              rw [if_neg (fun z => by rw [hdt b z] at e; cases e)]
              exact e
            have st : Step H1 Hd1 [] H' Hd2 := ⟨ex2, fun b o e _ => k1 b o e, fun b h1 h2 => by
              show (if b ∈ ts then H' b else Hd1 b) = none
              rw [if_neg (fun z => h1 (k3 b z))]
              exact h2, fun b h1 => by
              cases e : H1 b with
              | none => exact absurd e h1
              | some o => rw [k1 b o e]; simp⟩
            have sub2 : Ex Hd2 H' := fun b o e => by
              by_cases hb : b ∈ ts
              · rw [← e2 b hb]; exact e
              · have e' : Hd1 b = some o := by
                  have : (if b ∈ ts then H' b else Hd1 b) = some o := e
                  rw [if_neg hb] at this
                  exact this
                exact k1 b o (a1.sub b o e')
            refine k p (ts.map V.ref) (zipD xd yd) M1 H' Hd2 (a1.up st sub2) (s1.trans st.all) ?_ ?_ (not_ls a1 k2) k6 (paired_zip (ts := ts) (fun _ h => h) ha1 ha2 k7 Hd2 ex2 e2) q
            · cases e : H p with
              | none => rfl
              | some o => exact absurd k2 (s1.there p (by rw [e]; simp))
            · show (if p ∈ ts then H' p else Hd1 p) = none
              rw [if_neg k4]
              exact fresh_hd a1.sub k2
end
end PW

set_option Elab.async false
set_option linter.all false
set_option maxRecDepth 100000
set_option maxHeartbeats 2000000
namespace PW
open PySem L2 Evl PySem.Spec PyProof.Rows
section
variable {K : Fg} {n : Ent → Prop} {δ : Dl} {M : Ms} {P : Po} {te tl : TE}
/-- x, y = [], e -/
theorem wb_parL {i j : Nat} (h : WE K te δ M fun d M1 => M1 = M ∧ P.nx ((δ.set i (some (.own M.length))).set j (some (.dat d))) (M ++ [.lst []])) : WB K n (tPar i j (tCons (tLst tNil) (tCons te tNil))) δ M P := fun e σ H Hd ls W hn r k1 k2 k3 k4 => by
  refine ⟨Nat.zero_le _, fun p hp => ?_⟩
  show te σ (upd H p (.lst [])) (fun x H1 => ∃ v w, V.ref p :: x :: [] = [v, w] ∧ W.nx ((σ.set i (some v)).set j (some w)) H1)
  have a1 := sta_new r.sta (o := .lst []) hp
  have s1 : Step H Hd ls (upd H p (.lst [])) Hd := (step_new hp).all
  refine h σ _ Hd ls _ a1 fun v d M1 H1 Hd1 a2 s2 dv q => ?_
  obtain ⟨rfl, q⟩ := q
  have r1 := r.go a2 (s1.trans s2)
  refine ⟨_, _, rfl, ?_⟩
  have n1 : Hd1 p = none := s2.new p (by rw [upd_same]; simp) (fresh_hd r.sta.sub hp)
  have e1 : H1 p = some (.lst []) := s2.old p _ upd_same (not_ls r.sta hp)
  have m1 : MAt K Hd1 H1 p (.lst []) := ⟨n1, _, e1, .nil⟩
  have r2 := r1.adopt (i := i) m1 (not_ls r.sta hp) (ent_none r hp)
  exact k1 _ _ _ H1 Hd1 (ls ++ [p]) ⟨r2.sta.put dv, r2.step, r2.pre, r2.loc⟩ (s1.trans s2).ext (List.prefix_append _ _) q
/-- x, y = e, a fresh list -/
theorem wb_parEO {i j : Nat} (h : WE K te δ M fun d M1 => WL K tl δ M1 fun ds M2 => P.nx ((δ.set i (some (.dat d))).set j (some (.own M2.length))) (M2 ++ [.lst ds])) : WB K n (tPar i j (tCons te (tCons tl tNil))) δ M P := fun e σ H Hd ls W hn r k1 k2 k3 k4 =>
  h σ H Hd ls _ r.sta fun v d M1 H1 Hd1 a1 s1 dv h1 => h1 σ H1 Hd1 ls _ a1 fun p xs ds M2 H2 Hd2 a2 s2 e0 e2 e3 e4 e5 q => by
    have s12 := s1.trans s2
    have r1 := r.go a2 s12
    refine ⟨_, _, rfl, ?_⟩
    have h0 : H p = none := by
      cases e : H p with
      | none => rfl
      | some o => exact absurd e0 (s1.there p (by rw [e]; simp))
    have r2 : Run K e (δ.set i (some (.dat d))) M2 (σ.set i (some v)) H2 Hd2 ls := ⟨r1.sta.put (dv.up s2.ext), r1.step, r1.pre, r1.loc⟩
    have m1 : MAt K Hd2 H2 p (.lst ds) := ⟨e2, _, e4, e5⟩
    have r3 := r2.adopt (i := j) m1 e3 (ent_none r h0)
    exact k1 _ _ _ H2 Hd2 (ls ++ [p]) r3 s12.ext (List.prefix_append _ _) q
end
section
variable {K : Fg} {δ : Dl} {M : Ms} {RL : List D → Ms → Prop} {te : TE} {tt : TT} {g : TG} {vs : List Nat} {f : D → Option D}
/-- a comprehension with a test, by a function -/
theorem comp_fm (ds : List D) : ∀ (acc : List D), (∀ d ∈ ds, WC K g vs d δ M fun δ1 => WT K tt δ1 M fun b M1 => (b = true → WE K te δ1 M1 fun y M2 => M2 = M ∧ f d = some y) ∧ (b = false → M1 = M ∧ f d = none)) → acc.length + ds.length ≤ sizeLine → RL (acc ++ ds.filterMap f) M → comp K g tt te vs ds δ M acc RL := by
  induction ds with
  | nil => intro acc h hl q; rw [List.filterMap_nil, List.append_nil] at q; exact comp_nil q
  | cons d ds ih =>
    intro acc h hl q
    simp only [List.length_cons] at hl
    refine comp_if ?_
    have h1 := h d (by simp)
    intro σ H Hd ls v Q a dv kk
    refine h1 σ H Hd ls v Q a dv fun δ' σ' a' l' j' q1 => kk δ' σ' a' l' j' (wt_mono q1 fun b M1 q2 => ⟨fun hb => we_mono (q2.1 hb) fun y M2 q3 => ?_, fun hb => ?_⟩)
    · obtain ⟨rfl, e⟩ := q3
      refine ⟨by omega, ih _ (fun x hx => h x (by simp [hx])) (by rw [List.length_append]; simp only [List.length_cons, List.length_nil]; omega) ?_⟩
      rw [List.filterMap_cons, e] at q
      rw [List.append_assoc]
      exact q
    · obtain ⟨rfl, e⟩ := q2.2 hb
      refine ih _ (fun x hx => h x (by simp [hx])) (by omega) ?_
      rw [List.filterMap_cons, e] at q
      exact q
/-- a comprehension without a test, by a function -/
theorem comp_fmap {f : D → D} (ds : List D) : ∀ (acc : List D), (∀ d ∈ ds, WC K g vs d δ M fun δ1 => WE K te δ1 M fun y M2 => M2 = M ∧ f d = y) → acc.length + ds.length ≤ sizeLine → RL (acc ++ ds.map f) M → comp K g tYes te vs ds δ M acc RL := by
  induction ds with
  | nil => intro acc h hl q; rw [List.map_nil, List.append_nil] at q; exact comp_nil q
  | cons d ds ih =>
    intro acc h hl q
    simp only [List.length_cons] at hl
    refine comp_yes ?_
    have h1 := h d (by simp)
    intro σ H Hd ls v Q a dv kk
    refine h1 σ H Hd ls v Q a dv fun δ' σ' a' l' j' q1 => kk δ' σ' a' l' j' (we_mono q1 fun y M2 q3 => ?_)
    obtain ⟨rfl, rfl⟩ := q3
    refine ⟨by omega, ih _ (fun x hx => h x (by simp [hx])) (by rw [List.length_append]; simp only [List.length_cons, List.length_nil]; omega) ?_⟩
    rw [List.append_assoc]
    exact q
end
end PW

set_option Elab.async false
set_option linter.all false
set_option maxRecDepth 100000
set_option maxHeartbeats 2000000
namespace PW
open PySem L2 Evl PySem.Spec PyProof.Rows
section
variable {K : Fg} {n : Ent → Prop} {δ : Dl} {M : Ms} {P : Po} {te tl t1 t2 ta tb tc : TE} {ts tr : TA} {tbd : TS} {R : D → Ms → Prop} {RL : List D → Ms → Prop} {S : FS} {E : XK} {r r' : R2}
/-- *e in a display -/
theorem wd_star (h : WE K te δ M fun d M1 => ∃ xs, d = .list xs ∧ WD K tr δ M1 fun ds M2 => RL (xs ++ ds) M2) : WD K (StX.tStar K te tr) δ M RL := fun σ H Hd ls Q a k =>
  h σ H Hd ls _ a fun v d M1 H1 Hd1 a1 s1 dv h1 => by
    obtain ⟨xd, rfl, h1⟩ := h1
    cases dv with
    | lst hs ha =>
      rename_i p xs
      exact ⟨p, xs, rfl, .inr (ex_l a1.sub hs), h1 σ H1 Hd1 ls _ a1 fun vs ds M2 H2 Hd2 a2 s2 da q => k (xs ++ vs) (xd ++ ds) M2 H2 Hd2 a2 (s1.trans s2) ((ha.up s2.ext).app da) q⟩
/-- a < b < c -/
theorem we_chain (h : WE K ta δ M fun x M1 => WE K tb δ M1 fun y M2 => OD K r x y fun z => ∃ b, z = .bool b ∧ if b = true then WE K tc δ M2 fun w M3 => OD K r' y w fun d => R d M3 else R (.bool false) M2) : WE K (tChain r r' ta tb tc) δ M R := fun σ H Hd ls Q a k =>
  h σ H Hd ls _ a fun v x M1 H1 Hd1 a1 s1 dv h1 => h1 σ H1 Hd1 ls _ a1 fun w y M2 H2 Hd2 a2 s2 dw h2 => h2 H2 Hd2 v w _ a2.sub (dv.up s2.ext) dw fun z d H3 Hd3 s3 x3 dz q => by
    obtain ⟨b, rfl, q⟩ := q
    cases dz
    have s123 := (s1.trans s2).trans s3.all
    refine ⟨b, rfl, ?_⟩
    cases b with
    | true =>
      exact q σ H3 Hd3 ls _ (a2.up s3 x3) fun u du M4 H4 Hd4 a4 s4 duu q4 => q4 H4 Hd4 w u Q a4.sub ((dw.up s3.ext).up s4.ext) duu fun z d H5 Hd5 s5 x5 dz q => k z d M4 H5 Hd5 (a4.up s5 x5) ((s123.trans s4).trans s5.all) dz q
    | false => exact k _ _ M2 H3 Hd3 (a2.up s3 x3) s123 (.bl false) q
/-- f(a fresh list, data): the callee may change it; nobody sees it afterwards -/
theorem we_callF (h : WL K tl δ M fun es M1 => WD K tr δ M1 fun ds M2 => S (.own 0 :: ds.map .dat) [.lst es] fun d _ => R d M2) : WE K (tCall (SpF K S) [] E (tCons tl tr)) δ M R := fun σ H Hd ls Q a kk =>
  h σ H Hd ls _ a fun p xs es M1 H1 Hd1 a1 s1 hp hd1 np hx dx h1 => h1 σ H1 Hd1 ls _ a1 fun vs ds M2 H2 Hd2 a2 s2 da h2 => by
    have hx2 : H2 p = some (.lst xs) := s2.old p _ hx np
    have hn2 : Hd2 p = none := s2.new p (by rw [hx]; simp) hd1
    have s12 := s1.trans s2
    show SpF K S ((V.ref p :: vs) ++ []) H2 Q E
    rw [List.append_nil]
    refine ⟨Hd2, [p], .own 0 :: ds.map .dat, [.lst es], _, ⟨a2.sub, rfl, by simp, fun j x y h1 h2 => ?_, .cons ⟨p, rfl, rfl⟩ (vcs_dat' da)⟩, h2, fun v d M3 H3 Hd3 x3 s3 e3 o3 dv q => ?_⟩
    · cases j with
      | zero => simp at h1 h2; subst h1; subst h2; exact ⟨hn2, xs, hx2, dx.up s2.ext⟩
      | succ j => simp at h1
    · have st : Step H Hd ls H3 Hd3 := by
        refine ⟨s12.ext.trans s3.ext, fun b o e nb => ?_, fun b e1 e2 => s3.new b (s12.there b e1) (s12.new b e1 e2), fun b e1 => s3.there b (s12.there b e1)⟩
        refine s3.old b o (s12.old b o e nb) fun hm => ?_
        rw [List.mem_singleton.mp hm, hp] at e
        cases e
      refine kk v d M2 H3 Hd3 ⟨x3, a2.mlen, a2.nd, fun j x y h1 h2 => ?_, a2.dlen, fun j z hz => ?_, a2.own⟩ st dv q
      · have hx : x ∉ [p] := fun hm => np (by rw [← List.mem_singleton.mp hm]; exact List.mem_of_getElem? h1)
        have := a2.obj j x y h1 h2
        cases y with
        | lst es => obtain ⟨z, ys, hy, hs⟩ := this; exact ⟨s3.new x (by rw [hy]; simp) z, ys, s3.old x _ hy hx, hs.up s3.ext⟩
        | dic es => obtain ⟨z, ys, hy, hk, hs⟩ := this; exact ⟨s3.new x (by rw [hy]; simp) z, ys, s3.old x _ hy hx, hk, hs.up s3.ext⟩
        | gone =>
          intro z
          cases e : Hd2 x with
          | none => exact this e
          | some o => rw [s3.ext x o e] at z; cases z
      · obtain ⟨u, h1, h2⟩ := a2.dat j z hz
        exact ⟨u, h1, h2.up s3.ext⟩
theorem Sta.putO {σ : L2.St} {H Hd : Hp} {ls : List Addr} (a : Sta K δ M σ H Hd ls) {i k : Nat} {l : Addr} (hl : ls[k]? = some l) : Sta K (δ.set i (some (.own k))) M (σ.set i (some (.ref l))) H Hd ls := by
  refine ⟨a.sub, a.mlen, a.nd, a.obj, by simp [a.dlen], fun j x h => ?_, fun j m h => ?_⟩
  · by_cases e : i = j
    · subst e
      rw [List.getElem?_set] at h
      simp only [if_true] at h
      split at h <;> cases h
    · rw [List.getElem?_set_ne e] at h ⊢
      exact a.dat j x h
  · by_cases e : i = j
    · subst e
      rw [List.getElem?_set] at h ⊢
      simp only [if_true] at h ⊢
      split at h
      · rename_i hl2
        cases h
        rw [if_pos (by rw [a.dlen]; exact hl2)]
        exact ⟨l, hl, rfl⟩
      · cases h
    · rw [List.getElem?_set_ne e] at h ⊢
      exact a.own j m h
/-- where the loop over two fresh lists stands -/
def ffP (P : Po) : Po := { nx := P.nx, rt := P.rt, bk := P.nx, ct := P.nx }
def ffQ (K : Fg) (n : Ent → Prop) (tbd : TS) (j k : Nat) (P : Po) : Po := { nx := fun δ' M' => WB K n tbd (δ'.set j (some (.own (k + 1)))) M' (ffP P), rt := P.rt, bk := P.nx, ct := fun δ' M' => WB K n tbd (δ'.set j (some (.own (k + 1)))) M' (ffP P) }
def ffSt (K : Fg) (n : Ent → Prop) (tbd : TS) (j k : Nat) (P : Po) : Nat → Dl → Ms → Prop
  | 0, δ', M' => WB K n tbd (δ'.set j (some (.own k))) M' (ffQ K n tbd j k P)
  | 1, δ', M' => WB K n tbd (δ'.set j (some (.own (k + 1)))) M' (ffP P)
  | _ + 2, δ', M' => P.nx δ' M'
/-- for x in [a fresh list, another one]: both are owned -/
theorem wb_forFF {j : Nat} (h : WL K t1 δ M fun es1 M1 => WL K t2 δ M1 fun es2 M2 => WB K n tbd (δ.set j (some (.own M2.length))) (M2 ++ [.lst es1] ++ [.lst es2]) (ffQ K n tbd j M2.length P)) :
    WB K n (tFor (iList K (tLst (tCons t1 (tCons t2 tNil)))) (gName j) tbd) δ M P := fun e σ H Hd ls W hn r k1 k2 k3 k4 => by
  refine h σ H Hd ls _ r.sta fun p1 xs1 es1 M1 H1 Hd1 a1 s1 hp1 hd1 n1 hx1 dx1 h1 => h1 σ H1 Hd1 ls _ a1 fun p2 xs2 es2 M2 H2 Hd2 a2 s2 hp2 hd2 n2 hx2 dx2 hb => ?_
  refine ⟨len_ok rfl, fun p0 hp0 => ⟨p0, rfl, ⟨_, SqL.of upd_same⟩, ?_⟩⟩
  have e12 : H2 p1 = some (.lst xs1) := s2.old p1 _ hx1 n1
  have d12 : Hd2 p1 = none := s2.new p1 (by rw [hx1]; simp) hd1
  have ne12 : p1 ≠ p2 := fun z => by rw [← z, hx1] at hp2; cases hp2
  have ne10 : p1 ≠ p0 := fun z => by rw [← z, e12] at hp0; cases hp0
  have ne20 : p2 ≠ p0 := fun z => by rw [← z, hx2] at hp0; cases hp0
  have hd0 : Hd2 p0 = none := fresh_hd a2.sub hp0
  have st : Step H2 Hd2 [] (upd H2 p0 (.lst [.ref p1, .ref p2])) (upd Hd2 p0 (.lst [.ref p1, .ref p2])) := by
    refine ⟨Ex.new hd0, fun b o e0 _ => ?_, fun b e1 e2 => ?_, fun b e1 => ?_⟩
    · rw [upd_ne (ne_of_none e0 hp0)]; exact e0
    · have : b ≠ p0 := fun z => e1 (z ▸ hp0)
      rw [upd_ne this]; exact e2
    · have : b ≠ p0 := fun z => e1 (z ▸ hp0)
      rw [upd_ne this]; exact e1
  have sub3 : Ex (upd Hd2 p0 (.lst [.ref p1, .ref p2])) (upd H2 p0 (.lst [.ref p1, .ref p2])) := fun b o e0 => by
    by_cases z : b = p0
    · subst z; rw [upd_same] at e0 ⊢; exact e0
    · rw [upd_ne z] at e0 ⊢; exact a2.sub b o e0
  have s12 := s1.trans s2
  have r3 := r.go (a2.up st sub3) (s12.trans st.all)
  have m1 : MAt K (upd Hd2 p0 (.lst [.ref p1, .ref p2])) (upd H2 p0 (.lst [.ref p1, .ref p2])) p1 (.lst es1) := ⟨by rw [upd_ne ne10]; exact d12, xs1, by rw [upd_ne ne10]; exact e12, dx1.up (s2.ext.trans st.ext)⟩
  have m2 : MAt K (upd Hd2 p0 (.lst [.ref p1, .ref p2])) (upd H2 p0 (.lst [.ref p1, .ref p2])) p2 (.lst es2) := ⟨by rw [upd_ne ne20]; exact hd2, xs2, by rw [upd_ne ne20]; exact hx2, dx2.up st.ext⟩
  have h2 : H p2 = none := by
    cases e0 : H p2 with
    | none => rfl
    | some o => exact absurd hp2 (s1.there p2 (by rw [e0]; simp))
  have r4 := r3.adopt (i := δ.length) m1 n1 (ent_none r hp1)
  have nw2 : p2 ∉ ls ++ [p1] := fun z => by
    rcases List.mem_append.mp z with z | z
    · exact n2 z
    · exact ne12 (List.mem_singleton.mp z).symm
  have r5 := r4.adopt (i := δ.length) m2 nw2 (ent_none r h2)
  have sl : σ.length = δ.length := r.sta.dlen
  have eδ : ∀ c, δ.set δ.length c = δ := fun c => List.set_eq_of_length_le (Nat.le_refl _)
  have eσ : ∀ c, σ.set δ.length c = σ := fun c => List.set_eq_of_length_le (by rw [sl]; exact Nat.le_refl _)
  rw [eδ, eδ, eσ, eσ] at r5
  have ml : M2.length = ls.length := a2.mlen.symm
  have at1 : ∀ {ls' : List Addr}, ls ++ [p1] ++ [p2] <+: ls' → ls'[M2.length]? = some p1 ∧ ls'[M2.length + 1]? = some p2 := fun ⟨tl, et⟩ => by
    rw [← et, ml]
    constructor
    · simp
    · simp
  have at0 : ∀ {H' Hd' : Hp} {xs : List V}, Ex (upd Hd2 p0 (.lst [.ref p1, .ref p2])) Hd' → Ex Hd' H' → SqL K H' p0 [.ref p1, .ref p2] := fun x1 x2 => SqL.of (x2 _ _ (x1 _ _ upd_same))
  refine ⟨fun i m σ' H' => m = 2 - i ∧ ∃ δ' M' Hd' ls', Run K e δ' M' σ' H' Hd' ls' ∧ Ex (upd Hd2 p0 (.lst [.ref p1, .ref p2])) Hd' ∧ ls ++ [p1] ++ [p2] <+: ls' ∧ ffSt K n tbd j M2.length P i δ' M', ⟨2, rfl, δ, _, _, _, r5, Ex.refl _, List.prefix_refl _, hb⟩, ?_⟩
  have ext0 : Ex Hd (upd Hd2 p0 (.lst [.ref p1, .ref p2])) := s12.ext.trans st.ext
  have pre0 : ls <+: ls ++ [p1] ++ [p2] := (List.prefix_append _ _).trans (List.prefix_append _ _)
  rintro i m σ1 H3 ⟨rfl, δ1, M3, Hd3, ls3, r6, x3, q3, hw⟩
  have sq : SqL K H3 p0 [.ref p1, .ref p2] := SqL.of (r6.sta.sub _ _ (x3 _ _ upd_same))
  obtain ⟨g1, g2⟩ := at1 q3
  match i, hw with
  | 0, hw =>
    refine .inr ⟨⟨_, _, sq, rfl⟩, fun σ' H' => ∃ δ' M' Hd' ls', Run K e δ' M' σ' H' Hd' ls' ∧ Ex (upd Hd2 p0 (.lst [.ref p1, .ref p2])) Hd' ∧ ls ++ [p1] ++ [p2] <+: ls' ∧ WB K n tbd (δ'.set j (some (.own (M2.length + 1)))) M' (ffP P), fun σ' H' q => ⟨1, by decide, rfl, q⟩, fun x H' y => ?_⟩
    obtain ⟨rfl, y⟩ := y
    have ex : x = .ref p1 := (Option.some.inj (y _ sq)).symm
    subst ex
    exact hw e _ H' Hd3 ls3 _ hn ⟨r6.sta.putO g1, r6.step, r6.pre, r6.loc⟩ (fun δ4 M4 σ4 H4 Hd4 ls4 r7 x7 p7 q7 => ⟨δ4, M4, Hd4, ls4, r7, x3.trans x7, q3.trans p7, q7⟩)
      (fun v d δ4 M4 σ4 H4 Hd4 ls4 r7 x7 p7 dv q7 => k2 v d δ4 M4 σ4 H4 Hd4 ls4 r7 ((ext0.trans x3).trans x7) ((pre0.trans q3).trans p7) dv q7)
      (fun δ4 M4 σ4 H4 Hd4 ls4 r7 x7 p7 q7 => k1 δ4 M4 σ4 H4 Hd4 ls4 r7 ((ext0.trans x3).trans x7) ((pre0.trans q3).trans p7) q7)
      (fun δ4 M4 σ4 H4 Hd4 ls4 r7 x7 p7 q7 => ⟨δ4, M4, Hd4, ls4, r7, x3.trans x7, q3.trans p7, q7⟩)
  | 1, hw =>
    refine .inr ⟨⟨_, _, sq, rfl⟩, fun σ' H' => ∃ δ' M' Hd' ls', Run K e δ' M' σ' H' Hd' ls' ∧ Ex (upd Hd2 p0 (.lst [.ref p1, .ref p2])) Hd' ∧ ls ++ [p1] ++ [p2] <+: ls' ∧ P.nx δ' M', fun σ' H' q => ⟨0, by decide, rfl, q⟩, fun x H' y => ?_⟩
    obtain ⟨rfl, y⟩ := y
    have ex : x = .ref p2 := (Option.some.inj (y _ sq)).symm
    subst ex
    exact hw e _ H' Hd3 ls3 _ hn ⟨r6.sta.putO g2, r6.step, r6.pre, r6.loc⟩ (fun δ4 M4 σ4 H4 Hd4 ls4 r7 x7 p7 q7 => ⟨δ4, M4, Hd4, ls4, r7, x3.trans x7, q3.trans p7, q7⟩)
      (fun v d δ4 M4 σ4 H4 Hd4 ls4 r7 x7 p7 dv q7 => k2 v d δ4 M4 σ4 H4 Hd4 ls4 r7 ((ext0.trans x3).trans x7) ((pre0.trans q3).trans p7) dv q7)
      (fun δ4 M4 σ4 H4 Hd4 ls4 r7 x7 p7 q7 => k1 δ4 M4 σ4 H4 Hd4 ls4 r7 ((ext0.trans x3).trans x7) ((pre0.trans q3).trans p7) q7)
      (fun δ4 M4 σ4 H4 Hd4 ls4 r7 x7 p7 q7 => ⟨δ4, M4, Hd4, ls4, r7, x3.trans x7, q3.trans p7, q7⟩)
  | i + 2, hw => exact .inl ⟨⟨_, sq, by simp⟩, k1 δ1 M3 σ1 H3 Hd3 ls3 r6 (ext0.trans x3) (pre0.trans q3) hw⟩
end
end PW

set_option Elab.async false
set_option linter.all false
set_option maxRecDepth 100000
set_option maxHeartbeats 2000000
/-! texts: f-strings, join, split, slices, int of a text, signs; a body's own list handed back -/
namespace PW
open PySem L2 Evl PySem.Spec PyProof.Rows
section
variable {K : Fg} {n : Ent → Prop} {δ : Dl} {M : Ms} {P : Po} {te to ta tb : TE} {tl th : TO} {t : TT} {R : D → Ms → Prop} {RL : List D → Ms → Prop} {RR : D → Prop}
/-- the parts of an f-string -/
def WJ (K : Fg) : List TE → Str → Dl → Ms → (Str → Ms → Prop) → Prop
  | [], acc, _, M, R => R acc M
  | t :: ts, acc, δ, M, R => WE K t δ M fun d M1 => ∃ y, d = .str y ∧ (acc ++ y).length ≤ sizeLine ∧ WJ K ts (acc ++ y) δ M1 R
theorem wj_run : ∀ (ts : List TE) (acc : Str) (M : Ms) (R : Str → Ms → Prop), WJ K ts acc δ M R → ∀ σ H Hd ls (Q : Str → Hp → Prop), Sta K δ M σ H Hd ls →
    (∀ out M' H' Hd', Sta K δ M' σ H' Hd' ls → Step H Hd ls H' Hd' → R out M' → Q out H') → tJs ts acc σ H Q
  | [], acc, M, R, h, σ, H, Hd, ls, Q, a, k => k acc M H Hd a Step.refl h
  | t :: ts, acc, M, R, h, σ, H, Hd, ls, Q, a, k => by
    have h' : WE K t δ M fun d M1 => ∃ y, d = .str y ∧ (acc ++ y).length ≤ sizeLine ∧ WJ K ts (acc ++ y) δ M1 R := h
    refine h' σ H Hd ls _ a fun v d M1 H1 Hd1 a1 s1 dv q => ?_
    obtain ⟨y, rfl, hy, q⟩ := q
    cases dv
    exact ⟨y, rfl, hy, wj_run ts (acc ++ y) M1 R q σ H1 Hd1 ls Q a1 fun out M2 H2 Hd2 a2 s2 q2 => k out M2 H2 Hd2 a2 (s1.trans s2) q2⟩
theorem we_js {ts : List TE} (h : WJ K ts Str.empty δ M fun out M1 => R (.str out) M1) : WE K (fun σ H Q => tJs ts Str.empty σ H fun out H1 => Q (.str out) H1) δ M R := fun σ H Hd ls Q a k =>
  wj_run ts Str.empty M _ h σ H Hd ls _ a fun out M1 H1 Hd1 a1 s1 q => k _ _ M1 H1 Hd1 a1 s1 (.str out) q
theorem we_fmtS (h : WE K te δ M fun d M1 => ∃ y, d = .str y ∧ y.length ≤ sizeLine ∧ R (.str y) M1) : WE K (tFmt te) δ M R := fun σ H Hd ls Q a k =>
  h σ H Hd ls _ a fun v d M1 H1 Hd1 a1 s1 dv ⟨y, e, hy, q⟩ => by
    subst e
    cases dv
    exact .inl ⟨y, rfl, hy, k _ _ M1 H1 Hd1 a1 s1 (.str y) q⟩
theorem we_fmtI (h : WE K te δ M fun d M1 => ∃ i : Int, d = .int i ∧ i.natAbs.log2 < 1920 ∧ R (.str (Str.ofString (toString i))) M1) : WE K (tFmt te) δ M R := fun σ H Hd ls Q a k =>
  h σ H Hd ls _ a fun v d M1 H1 Hd1 a1 s1 dv ⟨i, e, hy, q⟩ => by
    subst e
    cases dv
    exact .inr ⟨i, rfl, hy, k _ _ M1 H1 Hd1 a1 s1 (.str _) q⟩
theorem dpa_strs {H : Hp} : ∀ {ys : List Str} {vs : List V}, DpAll K H vs (ys.map .str) → vs = ys.map V.str
  | [], vs, h => by cases h; rfl
  | y :: ys, vs, h => by
    cases h with
    | cons h1 h2 =>
      cases h1
      rw [dpa_strs h2]
      rfl
theorem strs_dpa {H : Hp} : ∀ (ys : List Str), DpAll K H (ys.map V.str) (ys.map .str)
  | [] => .nil
  | y :: ys => .cons (.str y) (strs_dpa ys)
def rJoin (K : Fg) : V → List V → Hp → VK → Prop := fun x xs H Q => ∃ a p, ∃ ys : List Str, x = .str a ∧ xs = [.ref p] ∧ (SqL K H p (ys.map V.str) ∨ SqT K H p (ys.map V.str)) ∧ (ys.map (·.length)).sum + ys.length * a.length ≤ 16777216 ∧ Q (.str (Txt.join a ys)) H
theorem mt_joinK {X : Cx} : MtR X "str.join" (rJoin X.K) := mt_join
theorem we_join (h : WE K to δ M fun x M1 => ∃ a, x = .str a ∧ WE K te δ M1 fun y M2 => ∃ ys : List Str, y = .list (ys.map .str) ∧ (ys.map (·.length)).sum + ys.length * a.length ≤ 16777216 ∧ R (.str (Txt.join a ys)) M2) : WE K (tM1 (rJoin K) to te) δ M R := fun σ H Hd ls Q a k =>
  h σ H Hd ls _ a fun v x M1 H1 Hd1 a1 s1 dv h1 => by
    obtain ⟨s, rfl, h1⟩ := h1
    cases dv
    refine ⟨⟨s, rfl⟩, h1 σ H1 Hd1 ls _ a1 fun w y M2 H2 Hd2 a2 s2 dw h2 => ?_⟩
    obtain ⟨ys, rfl, hz, q⟩ := h2
    cases dw with
    | lst hs ha =>
      have e := dpa_strs ha
      subst e
      exact ⟨s, _, ys, rfl, rfl, .inl (ex_l a2.sub hs), hz, k _ _ M2 H2 Hd2 a2 (s1.trans s2) (.str _) q⟩
def rSplit : V → List V → Hp → VK → Prop := fun x xs H Q => ∃ a b, x = .str a ∧ xs = [.str b] ∧ (b.length == 0) = false ∧ a.length + 2 ≤ sizeLine ∧ rNewStrs (Txt.split a b) H Q
theorem mt_splitK {X : Cx} : MtR X "str.split" rSplit := mt_split
theorem wl_split (h : WE K to δ M fun x M1 => ∃ a, x = .str a ∧ WE K te δ M1 fun y M2 => ∃ b, y = .str b ∧ (b.length == 0) = false ∧ a.length + 2 ≤ sizeLine ∧ RL ((Txt.split a b).map .str) M2) : WL K (tM1 rSplit to te) δ M RL := fun σ H Hd ls Q a k =>
  h σ H Hd ls _ a fun v x M1 H1 Hd1 a1 s1 dv h1 => by
    obtain ⟨s, rfl, h1⟩ := h1
    cases dv
    refine ⟨⟨s, rfl⟩, h1 σ H1 Hd1 ls _ a1 fun w y M2 H2 Hd2 a2 s2 dw h2 => ?_⟩
    obtain ⟨b, rfl, hb, hz, q⟩ := h2
    cases dw
    have s12 := s1.trans s2
    refine ⟨s, b, rfl, rfl, hb, hz, fun p hp => ?_⟩
    refine k p _ _ M2 _ Hd2 (sta_new a2 hp) (s12.trans (step_new hp).all) ?_ (fresh_hd a2.sub hp) (not_ls a2 hp) upd_same (strs_dpa _) q
    cases e : H p with
    | none => rfl
    | some o => exact absurd hp (s12.there p (by rw [e]; simp))
def rStarts : V → List V → Hp → VK → Prop := fun x xs H Q => ∃ a b, x = .str a ∧ xs = [.str b] ∧ Q (.bl (Txt.startswith a b)) H
theorem mt_startsK {X : Cx} : MtR X "str.startswith" rStarts := mt_startswith
theorem we_starts (h : WE K to δ M fun x M1 => ∃ a, x = .str a ∧ WE K te δ M1 fun y M2 => ∃ b, y = .str b ∧ R (.bool (Txt.startswith a b)) M2) : WE K (tM1 rStarts to te) δ M R := fun σ H Hd ls Q a k =>
  h σ H Hd ls _ a fun v x M1 H1 Hd1 a1 s1 dv h1 => by
    obtain ⟨s, rfl, h1⟩ := h1
    cases dv
    refine ⟨⟨s, rfl⟩, h1 σ H1 Hd1 ls _ a1 fun w y M2 H2 Hd2 a2 s2 dw h2 => ?_⟩
    obtain ⟨b, rfl, q⟩ := h2
    cases dw
    exact ⟨s, b, rfl, rfl, k _ _ M2 H2 Hd2 a2 (s1.trans s2) (.bl _) q⟩
/-- a slice of a text -/
theorem we_slS (h : WE K te δ M fun d M1 => WO K tl δ M1 fun lo M2 => WO K th δ M2 fun hi M3 => ∃ z, d = .str z ∧ z.length ≤ sizeLine ∧ R (.str (cutS z lo hi)) M3) : WE K (tSl rSlS te tl th) δ M R := fun σ H Hd ls Q a k =>
  h σ H Hd ls _ a fun v d M1 H1 Hd1 a1 s1 dv h1 => h1 σ H1 Hd1 ls _ a1 fun lo M2 H2 Hd2 a2 s2 h2 => h2 σ H2 Hd2 ls _ a2 fun hi M3 H3 Hd3 a3 s3 h3 => by
    obtain ⟨z, rfl, hz, q⟩ := h3
    cases dv
    exact ⟨z, rfl, hz, k _ _ M3 H3 Hd3 a3 ((s1.trans s2).trans s3) (.str _) q⟩
def rInSign : R2 := fun x y H Q => ∃ (c : Nat) (z : Str), x = .str ⟨#[c]⟩ ∧ y = .str z ∧ Q (.bl (decide (c ∈ z.cps.toList))) H
theorem op_inSign {X : Cx} : OpR X (compareOp .In) rInSign := op_in_sign
theorem od_inSign {c : Nat} {z : Str} (q : RR (.bool (decide (c ∈ z.cps.toList)))) : OD K rInSign (.str ⟨#[c]⟩) (.str z) RR := fun H Hd v w Q ex dx dy k => by
  cases dx
  cases dy
  exact ⟨c, z, rfl, rfl, k _ _ H Hd Step.refl ex (.bl _) q⟩
def rIntS : List V → Hp → VK → Prop := fun xs H Q => ∃ a n, xs = [.str a] ∧ PySem.intText? a = some n ∧ a.length ≤ 640 ∧ Q (.int n) H
theorem call_intS {X : Cx} : CallR X (.type "int") rIntS := call_int_str
theorem cd_intS {a : Str} {i : Int} (h : PySem.intText? a = some i) (hl : a.length ≤ 640) (q : RR (.int i)) : CD K rIntS [.str a] RR := fun H Hd vs Q ex da k => by
  cases da with
  | cons d1 d2 =>
    cases d1
    cases d2
    exact ⟨a, i, rfl, h, hl, k _ _ H Hd Step.refl ex (.int _) q⟩
theorem cd_strI {i : Int} {R : D → Prop} (h : i.natAbs.log2 < 1920) (q : R (.str (Str.ofString (toString i)))) : CD K (fun xs H Q => ∃ i, xs = [.int i] ∧ i.natAbs.log2 < 1920 ∧ Q (.str (Str.ofString (toString i))) H) [.int i] R := fun H Hd vs Q ex da k => by
  cases da with
  | cons d1 d2 =>
    cases d1
    cases d2
    exact ⟨i, rfl, h, k _ _ H Hd Step.refl ex (.str _) q⟩
theorem od_addS {x y : Str} {R : D → Prop} (h : x.length + y.length ≤ sizeLine) (q : R (.str (x ++ y))) : OD K (fun x y H Q => ∃ i j, x = V.str i ∧ y = V.str j ∧ i.length + j.length ≤ sizeLine ∧ Q (V.str (i ++ j)) H) (.str x) (.str y) R := fun H Hd v w Q ex dx dy k => by
  cases dx
  cases dy
  exact ⟨x, y, rfl, rfl, h, k _ _ H Hd Step.refl ex (.str _) q⟩
theorem wl_if {ta tb : TE} (h : WT K t δ M fun b M1 => (b = true → WL K ta δ M1 RL) ∧ (b = false → WL K tb δ M1 RL)) : WL K (tIf t ta tb) δ M RL := fun σ H Hd ls Q a k =>
  h σ H Hd ls _ a fun b M1 H1 Hd1 a1 s1 h1 => by
    have fin : ∀ {tx : TE}, WL K tx δ M1 RL → tx σ H1 Q := fun {tx} hx => hx σ H1 Hd1 ls Q a1 fun p xs ds M2 H2 Hd2 a2 s2 e1 e2 e3 e4 e5 q => k p xs ds M2 H2 Hd2 a2 (s1.trans s2) (by
      cases e : H p with
      | none => rfl
      | some o => exact absurd e1 (s1.there p (by rw [e]; simp))) e2 e3 e4 e5 q
    cases b with
    | true => exact fin (h1.1 rfl)
    | false => exact fin (h1.2 rfl)
/-- a body's own list, handed back: nothing else knows it -/
theorem wbl_retO {i k : Nat} {ds : List D} {RD : List D → Prop} (ho : δ[i]? = some (some (.own k))) (hm : M[k]? = some (.lst ds)) (q : RD ds) : WBL K (tRet (tVar i)) δ M RD := fun e σ H Hd ls W hn r kk => by
  obtain ⟨l, hl, hv⟩ := r.sta.own i k ho
  obtain ⟨n0, xs, hx, da⟩ := r.sta.obj k l _ hl hm
  refine ⟨_, hv, ?_⟩
  exact kk l xs ds H Hd r.sta.sub r.step (r.loc k l hl (by rw [hn]; exact Nat.zero_le _)) n0 hx da q
theorem wl_lcS {g : TG} {tt : TT} {tx tl : TE} {vs : List Nat} (h : WE K tl δ M fun d M1 => ∃ x : Str, d = .str x ∧ comp K g tt tx vs (x.cps.toList.map fun c => .str ⟨#[c]⟩) (wipeD δ vs) M1 [] RL) : WL K (tLc (iStr tl) g tt tx vs) δ M RL := fun σ H Hd ls Q a k =>
  h σ H Hd ls _ a fun v d M1 H1 Hd1 a1 s1 dv h1 => by
    obtain ⟨x, rfl, ht⟩ := h1
    cases dv
    refine ⟨x, rfl, ?_⟩
    refine comp_by (H0 := H) a1 (fun i H' hi y => ?_) (fun H' y => ?_) (fun i H' y H2 hi ex z => ?_) ht fun p ys es M' H' Hd' a2 s2 e1 e2 e3 e4 e5 q => k p ys es M' H' Hd' a2 (s1.trans s2) ?_ e2 e3 e4 e5 q
    · show i < x.cps.size
      simpa using hi
    · show x.cps.size ≤ _
      simp
    · obtain ⟨e1, c, hc, rfl⟩ := z
      refine ⟨e1, .str ⟨#[c]⟩, ?_, .str _⟩
      rw [List.getElem?_map, Array.getElem?_toList, hc]
      rfl
    · cases e : H p with
      | none => rfl
      | some o => exact absurd e1 (s1.there p (by rw [e]; simp))
end
end PW

set_option Elab.async false
set_option linter.all false
set_option maxRecDepth 100000
set_option maxHeartbeats 2000000
/-! dicts of texts that are walked: locked for the time -/
namespace PW
open PySem L2 Evl PySem.Spec PyProof.Rows
section
variable {K : Fg}
def RdE (H H' : Hp) : Prop := ∀ a u, (∀ o w, u ≠ .frz o w) → L2.Rd H a u → L2.Rd H' a u
mutual
theorem dp_rd {H H' : Hp} (e : RdE H H') : ∀ (d : D) (v : V), Dp K H v d → Dp K H' v d
  | .none, _, h => by cases h; exact .non
  | .bool b, _, h => by cases h; exact .bl b
  | .int i, _, h => by cases h; exact .int i
  | .str x, _, h => by cases h; exact .str x
  | .list ds, _, h => by
    cases h with
    | lst hs ha => exact .lst (hs.imp (e _ _ fun _ _ z => nomatch z) id) (dpa_rd e ds _ ha)
  | .tuple ds, _, h => by
    cases h with
    | tup hs ha => exact .tup (hs.imp (e _ _ fun _ _ z => nomatch z) id) (dpa_rd e ds _ ha)
  | .dict _, _, h => by
    cases h with
    | dic h0 h1 h2 => exact .dic h0 (e _ _ (fun _ _ z => nomatch z) h1) h2
theorem dpa_rd {H H' : Hp} (e : RdE H H') : ∀ (ds : List D) (vs : List V), DpAll K H vs ds → DpAll K H' vs ds
  | [], _, h => by cases h; exact .nil
  | d :: ds, _, h => by
    cases h with
    | cons h1 h2 => exact .cons (dp_rd e d _ h1) (dpa_rd e ds _ h2)
end
theorem rd_lock {H : Hp} {d : Addr} {o : Obj} {kvs : List (Key × V)} (h : H d = some (.dK kvs)) : RdE H (upd H d (.frz o (.dK kvs))) := fun a w nf r => by
  by_cases e : a = d
  · subst e
    rcases r with r | ⟨o', r⟩
    · rw [h] at r; cases r; exact .inr ⟨o, upd_same⟩
    · rw [h] at r; cases r
  · rcases r with r | ⟨o', r⟩
    · exact .inl (by rw [upd_ne e]; exact r)
    · exact .inr ⟨o', by rw [upd_ne e]; exact r⟩
theorem rd_unlock {H : Hp} {d : Addr} {o : Obj} {kvs : List (Key × V)} (h : H d = some (.frz o (.dK kvs))) : RdE H (upd H d (.dK kvs)) := fun a w nf r => by
  by_cases e : a = d
  · subst e
    rcases r with r | ⟨o', r⟩
    · rw [h] at r; cases r; exact absurd rfl (nf _ _)
    · rw [h] at r; cases r; exact .inl upd_same
  · rcases r with r | ⟨o', r⟩
    · exact .inl (by rw [upd_ne e]; exact r)
    · exact .inr ⟨o', by rw [upd_ne e]; exact r⟩
variable {δ : Dl} {M : Ms} {σ : L2.St} {H Hd H' Hd' : Hp} {ls : List Addr} {d : Addr} {u f : HO}
theorem Sta.swap (a : Sta K δ M σ H Hd ls) (hd : Hd d ≠ none) (e : RdE Hd (upd Hd d u)) : Sta K δ M σ (upd H d u) (upd Hd d u) ls := by
  refine ⟨fun b w hb => ?_, a.mlen, a.nd, fun k l m hl hm => ?_, a.dlen, fun i x hx => ?_, a.own⟩
  · by_cases z : b = d
    · subst z; rw [upd_same] at hb ⊢; exact hb
    · rw [upd_ne z] at hb ⊢; exact a.sub b w hb
  · have := a.obj k l m hl hm
    cases m with
    | lst ds =>
      obtain ⟨z, xs, hx, hs⟩ := this
      have ne : l ≠ d := fun q => hd (q ▸ z)
      exact ⟨by rw [upd_ne ne]; exact z, xs, by rw [upd_ne ne]; exact hx, dpa_rd e _ _ hs⟩
    | dic ks =>
      obtain ⟨z, xs, hx, hk, hs⟩ := this
      have ne : l ≠ d := fun q => hd (q ▸ z)
      exact ⟨by rw [upd_ne ne]; exact z, xs, by rw [upd_ne ne]; exact hx, hk, dpa_rd e _ _ hs⟩
    | gone =>
      show upd Hd d u l ≠ none
      by_cases q : l = d
      · subst q; rw [upd_same]; simp
      · rw [upd_ne q]; exact this
  · obtain ⟨v, hv, dv⟩ := a.dat i x hx
    exact ⟨v, hv, dp_rd e _ _ dv⟩
theorem Step.swap (s : Step (upd H d f) (upd Hd d f) ls H' Hd') (hd : Hd d = some u) (hH : H d = some u) : Step H Hd ls (upd H' d u) (upd Hd' d u) := by
  refine ⟨fun b w hb => ?_, fun b w hb hn => ?_, fun b hb hn => ?_, fun b hb => ?_⟩
  · by_cases z : b = d
    · subst z; rw [upd_same]; rw [hd] at hb; exact hb
    · rw [upd_ne z]; exact s.ext b w (by rw [upd_ne z]; exact hb)
  · by_cases z : b = d
    · subst z; rw [upd_same]; rw [hH] at hb; exact hb
    · rw [upd_ne z]; exact s.old b w (by rw [upd_ne z]; exact hb) hn
  · have z : b ≠ d := fun q => by rw [q, hd] at hn; cases hn
    rw [upd_ne z]
    exact s.new b (by rw [upd_ne z]; exact hb) (by rw [upd_ne z]; exact hn)
  · by_cases z : b = d
    · subst z; rw [upd_same]; simp
    · rw [upd_ne z]; exact s.there b (by rw [upd_ne z]; exact hb)
end
/-- an expression that walks a dict, locked for the time if it is not for good -/
def tLk (t : TE) : TE := fun σ H Q => t σ H Q ∨ tLockE t σ H Q
theorem pe_lk {X : Cx} {e : Expr} {t : TE} (he : PE X e t) : PE X e (tLk t) := ⟨fun pins s σ H Q I h => h.elim (fun h => he.run pins s σ H Q I h) (fun h => (pe_lock he).run pins s σ H Q I h)⟩
section
variable {K : Fg} {δ : Dl} {M : Ms} {RL : List D → Ms → Prop} {g : TG} {tt : TT} {te : TE} {vs : List Nat} {ps : List (Str × D)}
theorem map_str_inj {ps qs : List (Str × D)} (h : (ps.map fun p => (PyData.str p.1, p.2)) = qs.map fun p => (PyData.str p.1, p.2)) : ps = qs := by
  induction ps generalizing qs with
  | nil => cases qs with | nil => rfl | cons q r => cases h
  | cons p r ih =>
    cases qs with
    | nil => cases h
    | cons q s =>
      simp only [List.map_cons, List.cons.injEq, Prod.mk.injEq, PyData.str.injEq] at h
      obtain ⟨⟨h1, h2⟩, h3⟩ := h
      rw [ih h3, Prod.ext h1 h2]
theorem lcK_run {σ : L2.St} {H Hd : Hp} {ls : List Addr} {Q : VK} {i : Nat} {d : Addr} {o : Obj} (a : Sta K δ M σ H Hd ls) (hv : σ[i]? = some (some (.ref d))) (hd : Hd d = some (.frz o (.dK (ps.map fun p => ((.inr p.1 : Key), lfV p.2)))))
    (h : comp K g tt te vs (ps.map fun p => .str p.1) (wipeD δ vs) M [] RL)
    (k : ∀ p xs es M' H' Hd', Sta K δ M' σ H' Hd' ls → Step H Hd ls H' Hd' → H p = none → Hd' p = none → p ∉ ls → H' p = some (.lst xs) → DpAll K Hd' xs es → RL es M' → Q (.ref p) H') : tLc (iKeys (tVar i)) g tt te vs σ H Q := by
  refine ⟨_, hv, d, o, rfl, .inl ⟨_, a.sub _ _ hd, ?_⟩⟩
  refine comp_by a (ds := ps.map fun p => .str p.1) (H0 := H) (fun j H1 hj x => ?_) (fun H1 x => ?_) (fun j H1 x H2 hj ex y => ?_) h k
  · exact ⟨x _ _ hd, by simpa using hj⟩
  · exact ⟨x _ _ hd, by simp⟩
  · obtain ⟨e, ky, v, hk, rfl⟩ := y
    refine ⟨e, ?_⟩
    rw [List.getElem?_map] at hk ⊢
    cases hp : ps[j]? with
    | none => rw [hp] at hk; cases hk
    | some p =>
      rw [hp] at hk
      cases hk
      exact ⟨_, rfl, .str p.1⟩
/-- [.. for key in d], d a dict of texts -/
theorem wl_lcK {i : Nat} (ho : δ[i]? = some (some (.dat (.dict (ps.map fun p => (PyData.str p.1, p.2)))))) (h : comp K g tt te vs (ps.map fun p => .str p.1) (wipeD δ vs) M [] RL) : WL K (tLk (tLc (iKeys (tVar i)) g tt te vs)) δ M RL := fun σ H Hd ls Q a k => by
  obtain ⟨v, hv, dv⟩ := a.dat i _ ho
  cases dv with
  | dic h0 h1 h2 =>
    rename_i d ps'
    obtain rfl := map_str_inj h0
    rcases h1 with h1 | ⟨o, h1⟩
    · refine .inr ⟨d, _, a.sub _ _ h1, trivial, fun od => ?_⟩
      have ne : Hd d ≠ none := by rw [h1]; simp
      refine lcK_run (a.swap ne (rd_lock h1)) hv upd_same h fun p xs es M' H' Hd' a' s' e1 e2 e3 e4 e5 q => ?_
      have f1 := s'.ext _ _ (upd_same (H := Hd) (a := d))
      have np : p ≠ d := fun z => by rw [z, upd_same] at e1; cases e1
      have s2 := s'.swap h1 (a.sub _ _ h1)
      have ne' : Hd' d ≠ none := by rw [f1]; simp
      have rd := rd_unlock f1
      exact ⟨a'.sub _ _ f1, k p xs es M' _ _ (a'.swap ne' rd) s2 (by rw [upd_ne np] at e1; exact e1) (by rw [upd_ne np]; exact e2) e3 (by rw [upd_ne np]; exact e4) (dpa_rd rd _ _ e5) q⟩
    · exact .inl (lcK_run a hv h1 h k)
end
end PW

set_option Elab.async false
set_option linter.all false
set_option maxRecDepth 100000
set_option maxHeartbeats 2000000
/-! defs that can raise -/
namespace PW
open PySem L2 Evl PySem.Spec PyProof.Rows
/-- a def that can let an exception out; it knows that no repr is running around it -/
structure FnX (P : Program) (w : World) (K : Fg) (mg : Str → Option Value) (base : Heap) (k : Nat) (f : Addr) (fd : FuncData) (ps : List Str) (sp : Sp) : Prop where
  arity : ∀ vs H Q E, sp vs H Q E → vs.length = ps.length
  runs : ∀ (A : Around) (outer : List Env) (s : Shared) (H : Hp) (args : Args) (us : List Value) (vs : List V) (Q : VK) (E : XK), Room k A → A.guards = some [] → Env0 P w K mg base A outer s H →
    BindsTo s fd args (ps.zip us) → Vals vs us → sp vs H Q E → codeAny (model P w) A (.call (.ref f) args) (CR (L2.CX P w) outer P w H s Q E) s
section
variable {P : Program} {w : World} {K : Fg} {mg : Str → Option Value} {base : Heap}
theorem fnx {x qual : Str} {st : Stmt} {f : Addr} {fd : FuncData} {N ps : List Str} {k : Nat} {sp : Sp} (F : Fun K x qual st f fd) (S : FnScope N ps (defScope st)) (ar : ∀ vs H Q E, sp vs H Q E → vs.length = ps.length)
    (body : ∀ (cdv : Value) (A : Around) (outer : List Env) (s : Shared) (H : Hp) (vs : List V) (Q : VK) (E : XK), Room k (A.deeper (envOfC qual (defScope st) s.heap.objs.size f cdv)) → (A.deeper (envOfC qual (defScope st) s.heap.objs.size f cdv)).guards = some [] →
      sp vs H Q E → ∃ t, PSs (cxOf (L2.CX P w) P w K mg base N qual (defScope st) f cdv A outer s H E) (defBody st) t ∧ t { nx := fun _ H' => Q .non H', rt := Q } (L2.start N vs) H) : FnX P w K mg base (k + 1) f fd ps sp := by
  obtain ⟨oc, od, kV, doc, pm, an, cdv, ct, osl, efd, look, code⟩ := F.ex
  subst efd
  refine ⟨ar, fun A outer s H args us vs Q E room guard env0 bind vals want => ?_⟩
  have arity := ar _ _ _ _ want
  have there : ∀ b o, base.get? b = some o → s.heap.get? b = some o := fun b o q => (env0.bs b o q).1
  have inK : K.In s.heap := env0.mod.kin.keeps there
  have kinds : ∀ y ∈ ps.zip us, (defScope st).names.lookup y.1 = some .local ∨ ((defScope st).names.lookup y.1 = some .cell ∧ ((cellsFrom (s.heap.objs.size + 1) (defScope st).names []).lookup y.1).isSome = true) := by
    rintro ⟨nm, vl⟩ hy
    rcases S.par nm (List.of_mem_zip hy).1 with z | z
    · exact .inl z
    · exact .inr ⟨z, PySem.W.cellsFrom_some _ _ _ (Or.inl z)⟩
  refine codeAny_call_function room.depth (inK _ _ look) rfl S.co S.gen rfl (PySem.W.codeRec_of inK code) (bind _ _ _ _ ?_)
  refine wpAny_newFunctionEnv_cells S.kind kinds fun env eenv s1 inC => ?_
  subst eenv
  refine ⟨(env0.mod.nolimit.keeps there).keeps inC.toInCall.keep, codeAny_func ?_⟩
  obtain ⟨t, der, red⟩ := body cdv A outer s H vs Q E (room.deeper _) guard want
  have inv0 := inv_start (CX := L2.CX P w) (E := E) S room.hd env0 arity vals inC
  refine wpAny_mono (der.run [] s1 (L2.start N vs) H _ inv0 red) (fun fl s' z => ?_) (fun e s' z => z)
  have ended : ∀ (σ' : L2.St) (H' : Hp) (v : V) (u : Value), Inv (cxOf (L2.CX P w) P w K mg base N qual (defScope st) f cdv A outer s H E) [] σ' H' s' → RelV v u → Q v H' → CE outer P w H s Q u s' :=
    fun σ' H' v u J rv q => ⟨v, H', J.os, J.bare, J.base, J.hok, rv, q⟩
  cases fl with
  | next => obtain ⟨σ', H', J, q⟩ := z; exact ended σ' H' V.non Value.none J rfl q
  | ret u => obtain ⟨v, σ', H', J, rv, q⟩ := z; exact ended σ' H' v u J rv q
  | brk => obtain ⟨_, _, _, q⟩ := z; exact q.elim
  | cont => obtain ⟨_, _, _, q⟩ := z; exact q.elim
end
section
variable {X : Cx} {k : Nat} {f : Addr} {fd : FuncData} {ps : List Str} {sp : Sp} {E : L2.St → XK} {x : Str} {p pos : Pos} {e : Expr} {es : List Expr} {t : TA}
/-- f(e, ..), f can raise: what it lets out is taken at the slots of the call -/
theorem px_call (F : FnX X.prog X.w X.K X.mg X.base k f fd ps sp) (hr : Room k X.A) (hg : X.A.guards = some []) (hgl : Gl X x) (hm : X.mg x = some (.ref f)) (hk : PySem.W.keepIn X.K (.ref f) = true) (hb : Binds X.K fd ps []) (hx : ∀ σ, PassesAt (L2.CX X.prog X.w) X σ (E σ))
    (ha : PA X (e :: es) t) (hdb : (x == ("__debug__" : Str)) = false := by decide) (he : starEach (e :: es) X.env = (false, eval e X.env) :: starEach es X.env := by rfl) (hpl : (backTo pos (starEach es X.env)).any (·.1) = false := by rfl) :
    PE X (.Call (.Name x p) (e :: es) [] pos) (tCallS sp E t) := by
  constructor
  intro pins s σ H Q I h
  refine wpAny_Call_Name_kw (ld_glob I hgl hm ?_ hdb)
  refine PySem.W.callWith_K (h₀ := X.base) I.ok.mod.kin hk (thn (ha.run pos pins s σ H _ I h) ?_) he hpl
  rintro us s1 ⟨vs, H1, I1, r, q⟩
  refine ⟨I1.kIn, ?_⟩
  have many : us.length = ps.length := by rw [← r.length]; exact F.arity _ _ _ _ q
  have bound := hb s1 us I1.kIn (by rw [List.append_nil]; exact many)
  rw [List.append_nil] at bound
  refine wpAny_call (codeAny_mono (F.runs X.A X.stack s1 H1 ⟨us, []⟩ us vs Q (E σ) hr hg I1.env0 bound r q) fun res s' z => ?_)
  cases res with
  | error err => exact hx σ pins H1 s1 err s' I1 z
  | ok fl =>
    cases fl with
    | ret u => exact I1.after z
    | next => exact (show False from z).elim
    | brk => exact (show False from z).elim
    | cont => exact (show False from z).elim
end
/-! ### what a def lets out, over data -/
/-- an exception: its class, and its fields (leaves) -/
structure XD where
  cls : Addr
  fs : List (Str × D)
/-- from where a body began: all that stood there stands when it is let out -/
def EOk (e : Ent) (E : XK) (RE : XD → Prop) : Prop := ∀ (x : XD) (dd : Addr) (H' : Hp), (∀ b o, e.H b = some o → b ∉ e.ls → H' b = some o) → H' dd = some (.xd (x.fs.map fun p => (p.1, lfV p.2))) → (x.fs.all fun p => lfD p.2) = true → RE x → E (.ref x.cls) (some dd) H'
abbrev FE := List D → (D → Prop) → (XD → Prop) → Prop
def SpX (K : Fg) (S : FE) : Sp := fun vs H Q E => ∃ Hd ds R RE, Ex Hd H ∧ DpAll K Hd vs ds ∧ S ds R RE ∧
  (∀ v d H' Hd', Ex Hd' H' → Step H Hd [] H' Hd' → Dp K Hd' v d → R d → Q v H') ∧ EOk ⟨H, Hd, []⟩ E RE
/-- a body that can raise, and begins with data alone -/
abbrev OwnX (E : XK) (RE : XD → Prop) : Ent → Prop := fun e => e.ls.length = 0 ∧ EOk e E RE
theorem fgx {P : Program} {w : World} {K : Fg} {mg : Str → Option Value} {base : Heap} {x qual : Str} {st : Stmt} {f : Addr} {fd : FuncData} {N ps : List Str} {k : Nat} {S : FE} (F : Fun K x qual st f fd) (sc : FnScope N ps (defScope st)) (len : ∀ ds R RE, S ds R RE → ds.length = ps.length)
    (hbody : ∀ (cdv : Value) (A : Around) (outer : List Env) (s : Shared) (H : Hp) (E : XK), Room k (A.deeper (envOfC qual (defScope st) s.heap.objs.size f cdv)) → (A.deeper (envOfC qual (defScope st) s.heap.objs.size f cdv)).guards = some [] →
      ∃ t, PSs (cxOf (L2.CX P w) P w K mg base N qual (defScope st) f cdv A outer s H E) (defBody st) t ∧
        ∀ ds R RE, S ds R RE → WB K (OwnX E RE) t (slots N (ds.map C.dat)) [] { nx := fun _ _ => R .none, rt := fun d _ => R d }) : FnX P w K mg base (k + 1) f fd ps (SpX K S) := by
  refine fnx F sc (fun vs H Q E h => ?_) (fun cdv A outer s H vs Q E hr hg h => ?_)
  · obtain ⟨Hd, ds, R, RE, _, da, hs, _⟩ := h
    rw [da.length]; exact len ds R RE hs
  · obtain ⟨t, d, hb⟩ := hbody cdv A outer s H E hr hg
    refine ⟨t, d, ?_⟩
    obtain ⟨Hd, ds, R, RE, sub, da, hs, hq, hE⟩ := h
    have a : Arg K H Hd [] vs (ds.map C.dat) [] := ⟨sub, rfl, List.nodup_nil, fun k l m h => by simp at h, vcs_dat da⟩
    refine hb ds R RE hs ⟨H, Hd, []⟩ (L2.start N vs) H Hd [] _ ⟨rfl, hE⟩ ⟨sta_start N a, Step.refl, List.prefix_refl _, fun k l h1 h2 => by simp at h1⟩ (fun δ' M' σ' H' Hd' ls' r _ _ q => hq .non .none H' Hd' r.sta.sub r.step .non q) (fun v d δ' M' σ' H' Hd' ls' r _ _ dv q => hq v d H' Hd' r.sta.sub r.step dv q) (fun _ _ _ _ _ _ _ _ _ q => q) (fun _ _ _ _ _ _ _ _ _ q => q)
end PW

set_option Elab.async false
set_option linter.all false
set_option maxRecDepth 100000
set_option maxHeartbeats 2000000
/-! own exceptions: made and raised -/
namespace PW
open PySem L2 Evl PySem.Spec PyProof.Rows
/-- what a class's own __init__ does: each parameter kept under its name -/
def spI (C : Addr) (ns : List Str) : Sp := fun vs H Q _ => ∃ (a : Addr) (ys : List V), vs = .ref a :: ys ∧ ys.length = ns.length ∧ H a = some (exo a C none) ∧
  ∀ dx H', H dx = none → dx ≠ a → H' a = some (exo a C (some dx)) → H' dx = some (exd dx (ns.zip ys).reverse) → (∀ b, b ≠ a → b ≠ dx → H' b = H b) → Q .non H'
section
variable {P : Program} {w : World} {K : Fg} {mg : Str → Option Value} {base : Heap}
theorem ok_init1 {qual : Str} {st : Stmt} {f C : Addr} {fd : FuncData} {n1 : Str} (F : Fun K "__init__" qual st f fd) (sc : FnScope ["self", n1] ["self", n1] (defScope st)) (T : OexC K C) (h1 : PySem.W.findIn K (.ref C) n1 = some none)
    (der : ∀ (cdv : Value) (A : Around) (outer : List Env) (s : Shared) (H : Hp) (E : XK), PSs (cxOf CX0 P w K mg base ["self", n1] qual (defScope st) f cdv A outer s H E).nox (defBody st) (tOst K n1 (tVar 0) (tVar 1))) :
    FnOk P w K mg base CX0 1 f fd ["self", n1] (spI C [n1]) := by
  refine F.ok sc (fun vs H Q E h => ?_) (fun cdv A outer s H vs Q E hr h => ⟨_, der cdv A outer s H E, ?_⟩)
  · obtain ⟨a, ys, rfl, hl, _⟩ := h
    simpa using hl
  · obtain ⟨a, ys, rfl, hl, ha, hq⟩ := h
    match ys, hl with
    | [y1], _ =>
    refine ⟨y1, rfl, .ref a, rfl, a, C, rfl, T, h1, .inl ⟨ha, fun dx hdx ne => ?_⟩⟩
    refine hq dx _ hdx ne upd_same (by rw [upd_ne ne, upd_same]; rfl) fun b hb hb2 => ?_
    rw [upd_ne hb, upd_ne hb2]
theorem ok_init2 {qual : Str} {st : Stmt} {f C : Addr} {fd : FuncData} {n1 n2 : Str} (F : Fun K "__init__" qual st f fd) (sc : FnScope ["self", n1, n2] ["self", n1, n2] (defScope st)) (T : OexC K C) (h1 : PySem.W.findIn K (.ref C) n1 = some none) (h2 : PySem.W.findIn K (.ref C) n2 = some none)
    (der : ∀ (cdv : Value) (A : Around) (outer : List Env) (s : Shared) (H : Hp) (E : XK), PSs (cxOf CX0 P w K mg base ["self", n1, n2] qual (defScope st) f cdv A outer s H E).nox (defBody st) (tSeq (tOst K n1 (tVar 0) (tVar 1)) (tOst K n2 (tVar 0) (tVar 2)))) :
    FnOk P w K mg base CX0 1 f fd ["self", n1, n2] (spI C [n1, n2]) := by
  refine F.ok sc (fun vs H Q E h => ?_) (fun cdv A outer s H vs Q E hr h => ⟨_, der cdv A outer s H E, ?_⟩)
  · obtain ⟨a, ys, rfl, hl, _⟩ := h
    simpa using hl
  · obtain ⟨a, ys, rfl, hl, ha, hq⟩ := h
    match ys, hl with
    | [y1, y2], _ =>
    refine ⟨y1, rfl, .ref a, rfl, a, C, rfl, T, h1, .inl ⟨ha, fun dx hdx ne => ?_⟩⟩
    refine ⟨y2, rfl, .ref a, rfl, a, C, rfl, T, h2, .inr ⟨dx, [(n1, y1)], upd_same, by rw [upd_ne ne, upd_same], (show 1 ≤ 900 by decide), ?_⟩⟩
    refine hq dx _ hdx ne (by rw [upd_ne (Ne.symm ne), upd_same]) (by rw [upd_same]; rfl) fun b hb hb2 => ?_
    rw [upd_ne hb2, upd_ne hb, upd_ne hb2]
end
/-- raise C(e, ..) -/
def tRaise (C : Addr) (ns : List Str) (W : WX) (ta : TA) : TS := fun _ σ H => tMkO C (spI C ns) [] ta σ H fun cls d H' => W cls d σ H'
section
variable {K : Fg} {δ : Dl} {M : Ms} {P : Po} {ta : TA} {n : Ent → Prop} {E : XK} {RE : XD → Prop} {C : Addr} {ns : List Str}
theorem lf_vals {H : Hp} : ∀ {vs : List V} {ds : List D}, DpAll K H vs ds → ds.all lfD = true → vs = ds.map lfV
  | [], _, h, _ => by cases h; rfl
  | v :: vs, _, h, f => by
    cases h with
    | cons h1 h2 =>
      rw [List.all_cons, Bool.and_eq_true] at f
      rw [List.map_cons, ← lf_vals h2 f.2]
      congr 1
      cases h1 with
      | non => rfl
      | bl _ => rfl
      | int _ => rfl
      | str _ => rfl
      | lst _ _ => exact absurd f.1 (by simp [lfD])
      | tup _ _ => exact absurd f.1 (by simp [lfD])
      | dic _ _ _ => exact absurd f.1 (by simp [lfD])
theorem zip_lf : ∀ (ns : List Str) (ds : List D), ns.zip (ds.map lfV) = (ns.zip ds).map fun p => (p.1, lfV p.2)
  | [], _ => rfl
  | _ :: _, [] => rfl
  | n :: ns, d :: ds => by
    show (n, lfV d) :: ns.zip (ds.map lfV) = (n, lfV d) :: (ns.zip ds).map _
    rw [zip_lf ns ds]
theorem wb_raise (hP : ∀ e, n e → EOk e E RE) (h : WD K ta δ M fun ds M1 => ds.length = ns.length ∧ ns.length ≤ 1000 ∧ ds.all lfD = true ∧ RE ⟨C, (ns.zip ds).reverse⟩) : WB K n (tRaise C ns (fun cls d _ H => E cls d H) ta) δ M P := fun e σ H Hd ls W hn r k1 k2 k3 k4 =>
  h σ H Hd ls _ r.sta fun vs ds M1 H1 Hd1 a1 s1 da q => by
    obtain ⟨hl, hz, lf, hR⟩ := q
    have r1 := r.go a1 s1
    have hvl : vs.length = ds.length := da.length
    refine ⟨by omega, fun a ha => ?_⟩
    rw [List.append_nil]
    refine ⟨a, vs, rfl, by omega, upd_same, fun dx H' hdx ne h1 h2 h3 => ?_⟩
    rw [upd_ne ne] at hdx
    refine ⟨rfl, dx, _, h1, h2, hdx, ?_⟩
    refine hP e hn ⟨C, (ns.zip ds).reverse⟩ dx _ (fun b o hb hnb => ?_) ?_ ?_ hR
    · have hb1 := r1.step.old b o hb hnb
      have nb : b ≠ dx := fun z => by rw [z, hdx] at hb1; cases hb1
      have na : b ≠ a := fun z => by rw [z, ha] at hb1; cases hb1
      rw [upd_ne nb, del_ne na, h3 b na nb, upd_ne na]
      exact hb1
    · rw [upd_same, lf_vals da lf, zip_lf, List.map_reverse]
    · rw [List.all_reverse]
      clear h1 h2 hR
      have : ∀ (ns : List Str) (ds : List D), ds.all lfD = true → ((ns.zip ds).all fun p => lfD p.2) = true := by
        intro ns
        induction ns with
        | nil => intro ds _; rfl
        | cons n ns ih =>
          intro ds h
          cases ds with
          | nil => rfl
          | cons d ds =>
            rw [List.all_cons, Bool.and_eq_true] at h
            rw [List.zip_cons_cons, List.all_cons, Bool.and_eq_true]
            exact ⟨h.1, ih ds h.2⟩
      exact this ns ds lf
end
end PW

set_option Elab.async false
set_option linter.all false
set_option maxRecDepth 100000
set_option maxHeartbeats 2000000
/-! calls of defs that can raise: handed on, and caught -/
namespace PW
open PySem L2 Evl PySem.Spec PyProof.Rows
section
variable {K : Fg} {δ : Dl} {M : Ms} {P : Po} {ta : TA} {n : Ent → Prop} {E : XK} {RE : XD → Prop} {S : FE} {i j : Nat}
/-- what a def lets out itself -/
abbrev wOwn (E : XK) : WX := fun cls d _ H => E cls d H
/-- x = f(..), what f lets out is let out -/
theorem wb_asgX (hP : ∀ e, n e → EOk e E RE) (h : WD K ta δ M fun ds M1 => S ds (fun d => P.nx (δ.set i (some (.dat d))) M1) RE) : WB K n (tAsg (tCallS (SpX K S) (L2.WE (wOwn E)) ta) (gName i)) δ M P := fun e σ H Hd ls W hn r k1 k2 k3 k4 =>
  h σ H Hd ls _ r.sta fun vs ds M1 H1 Hd1 a1 s1 da hs => by
    have r1 := r.go a1 s1
    refine ⟨Hd1, ds, _, RE, a1.sub, da, hs, fun v d H' Hd' x' s' dv q => ?_, fun x dd H' hk hd lf hR => ?_⟩
    · have r2 := r1.go (a1.up s' x') s'.all
      exact k1 _ M1 _ H' Hd' ls ⟨(a1.up s' x').put dv, r2.step, r2.pre, r2.loc⟩ (s1.ext.trans s'.ext) (List.prefix_refl _) q
    · exact hP e hn x dd H' (fun b o hb hnb => hk b o (r1.step.old b o hb hnb) (by simp)) hd lf hR
/-- f(..) as a statement -/
theorem wb_dropX (hP : ∀ e, n e → EOk e E RE) (h : WD K ta δ M fun ds M1 => S ds (fun _ => P.nx δ M1) RE) : WB K n (tDrop (tCallS (SpX K S) (L2.WE (wOwn E)) ta)) δ M P := fun e σ H Hd ls W hn r k1 k2 k3 k4 =>
  h σ H Hd ls _ r.sta fun vs ds M1 H1 Hd1 a1 s1 da hs => by
    have r1 := r.go a1 s1
    refine ⟨Hd1, ds, _, RE, a1.sub, da, hs, fun v d H' Hd' x' s' dv q => ?_, fun x dd H' hk hd lf hR => ?_⟩
    · exact k1 _ M1 _ H' Hd' ls (r1.go (a1.up s' x') s'.all) (s1.ext.trans s'.ext) (List.prefix_refl _) q
    · exact hP e hn x dd H' (fun b o hb hnb => hk b o (r1.step.old b o hb hnb) (by simp)) hd lf hR
theorem set_junk {σ : L2.St} {δ : Dl} {H Hd : Hp} {ls : List Addr} (a : Sta K δ M σ H Hd ls) (hi : δ[i]? = some none) (v : Option V) : Sta K δ M (σ.set i v) H Hd ls := by
  refine ⟨a.sub, a.mlen, a.nd, a.obj, by rw [List.length_set]; exact a.dlen, fun m d h => ?_, fun m k h => ?_⟩
  · obtain ⟨w, hw, dw⟩ := a.dat m d h
    have : i ≠ m := fun z => by rw [z, h] at hi; cases hi
    exact ⟨w, by rw [List.getElem?_set_ne this]; exact hw, dw⟩
  · obtain ⟨l, hl, hw⟩ := a.own m k h
    have : i ≠ m := fun z => by rw [z, h] at hi; cases hi
    exact ⟨l, hl, by rw [List.getElem?_set_ne this]; exact hw⟩
theorem lookup_lf {f : Str} {d : D} : ∀ {fs : List (Str × D)}, fs.lookup f = some d → (fs.map fun p => (p.1, lfV p.2)).lookup f = some (lfV d)
  | [], h => by cases h
  | p :: fs, h => by
    rw [List.lookup_cons] at h
    rw [List.map_cons, List.lookup_cons]
    by_cases z : (f == p.1) = true
    · rw [z] at h ⊢
      cases h
      rfl
    · rw [Bool.eq_false_iff.mpr z] at h ⊢
      exact lookup_lf h
theorem lookup_leaf {f : Str} {d : D} : ∀ {fs : List (Str × D)}, fs.lookup f = some d → (fs.all fun p => lfD p.2) = true → lfD d = true
  | [], h, _ => by cases h
  | p :: fs, h, l => by
    rw [List.all_cons, Bool.and_eq_true] at l
    rw [List.lookup_cons] at h
    by_cases z : (f == p.1) = true
    · rw [z] at h
      cases h
      exact l.1
    · rw [Bool.eq_false_iff.mpr z] at h
      exact lookup_leaf h l.2
theorem lf_dp {H : Hp} {d : D} (h : lfD d = true) : Dp K H (lfV d) d := by
  cases d with
  | none => exact .non
  | bool b => exact .bl b
  | int i => exact .int i
  | str x => exact .str x
  | list _ => cases h
  | tuple _ => cases h
  | dict _ => cases h
/-- told = [e.f1, e.f2], e the exception in slot i -/
abbrev tTold2 (C : Addr) (f1 f2 : Str) (i j : Nat) : Addr → Value → Option Addr → TS := fun a cls d => tAsg (tLst (tCons (tXf a cls d C f1 (tVar i)) (tCons (tXf a cls d C f2 (tVar i)) tNil))) (gName j)
/-- try: f(..) / except c as e: told = [e.f1, e.f2]; all that f lets out is of one class, and c names it -/
theorem wb_try2 {c : Value} {C : Addr} {f1 f2 : Str} {WO : Ends → WX} (hi : δ[i]? = some none) (hij : i ≠ j) (hc : PySem.W.exmOne K (.ref C) c = some true)
    (h : WD K ta δ M fun ds M1 => S ds (fun _ => P.nx δ M1) fun x => x.cls = C ∧ ∃ d1 d2, x.fs.lookup f1 = some d1 ∧ x.fs.lookup f2 = some d2 ∧ P.nx (δ.set j (some (.dat (.list [d1, d2])))) M1) :
    WB K n (fun D σ H => tDrop (tCallS (SpX K S) (L2.WE (wAs K c i (tTold2 C f1 f2 i j) (WO D) D)) ta) D σ H) δ M P := fun e σ H Hd ls W hn r k1 k2 k3 k4 =>
  h σ H Hd ls _ r.sta fun vs ds M1 H1 Hd1 a1 s1 da hs => by
    have r1 := r.go a1 s1
    refine ⟨Hd1, ds, _, _, a1.sub, da, hs, fun v d H' Hd' x' s' dv q => ?_, fun x dd H' hk hd lf hR => ?_⟩
    · exact k1 _ M1 _ H' Hd' ls (r1.go (a1.up s' x') s'.all) (s1.ext.trans s'.ext) (List.prefix_refl _) q
    · obtain ⟨rfl, d1, d2, l1, l2, q⟩ := hR
      refine ⟨true, hc, fun _ a ha => ?_, fun z => nomatch z⟩
      have hil : i < σ.length := by
        rw [a1.dlen]
        exact (List.getElem?_eq_some_iff.mp hi).1
      have hgi : (σ.set i (some (V.ref a)))[i]? = some (some (.ref a)) := by rw [List.getElem?_set_self hil]
      have hk' : ∀ b o, H1 b = some o → H' b = some o := fun b o hb => hk b o hb (by simp)
      have s2 : Step H1 Hd1 [] H' Hd1 := ⟨Ex.refl _, fun b o hb _ => hk' b o hb, fun b _ h => h, fun b hb => by
        cases z : H1 b with
        | none => exact absurd z hb
        | some o => rw [hk' b o z]; simp⟩
      have a2 := a1.up s2 (fun b o hb => hk' b o (a1.sub b o hb))
      refine ⟨.ref a, hgi, rfl, rfl, dd, _, lfV d1, rfl, hd, lookup_lf l1, ?_⟩
      refine ⟨.ref a, hgi, rfl, rfl, dd, _, lfV d2, rfl, hd, lookup_lf l2, ?_⟩
      refine ⟨(show 2 ≤ sizeLine by rw [sizeLine_eq]; omega), fun p hp => ?_⟩
      have hdp : Hd1 p = none := by
        cases z : Hd1 p with
        | none => rfl
        | some o => rw [a2.sub p o z] at hp; cases hp
      have ex : Ex Hd1 (upd Hd1 p (.lst [lfV d1, lfV d2])) := Ex.new hdp
      have st : Step H' Hd1 [] (upd H' p (.lst [lfV d1, lfV d2])) (upd Hd1 p (.lst [lfV d1, lfV d2])) := ⟨ex, (step_new hp (Hd := Hd1)).old, fun b g1 g2 => by
        have : b ≠ p := fun z => g1 (z ▸ hp)
        rw [upd_ne this]; exact g2, (step_new hp (Hd := Hd1)).there⟩
      have a3 := a2.up st (fun b o z => by
        by_cases z' : b = p
        · subst z'; rw [upd_same] at z; cases z; exact upd_same
        · rw [upd_ne z'] at z; rw [upd_ne z']; exact a2.sub b o z)
      have dv : Dp K (upd Hd1 p (.lst [lfV d1, lfV d2])) (.ref p) (.list [d1, d2]) := .lst (SqL.of upd_same) (.cons (lf_dp (lookup_leaf l1 lf)) (.cons (lf_dp (lookup_leaf l2 lf)) .nil))
      have r3 := r1.go a3 (s2.all.trans st.all)
      have a4 := (set_junk a3 hi (some (V.ref a))).put (i := j) dv
      have hi' : (δ.set j (some (C.dat (.list [d1, d2]))))[i]? = some none := by rw [List.getElem?_set_ne (Ne.symm hij)]; exact hi
      have a5 := set_junk a4 hi' none
      exact k1 _ M1 _ _ _ ls ⟨a5, r3.step, r3.pre, r3.loc⟩ (s1.ext.trans ex) (List.prefix_refl _) q
end
end PW

set_option Elab.async false
set_option linter.all false
set_option maxRecDepth 100000
set_option maxHeartbeats 2000000
/-! a try with several clauses, whose first one takes all that the body lets out -/
namespace PW
open PySem L2 Evl PySem.Spec PyProof.Rows
/-- the first clause, `except c as n` with n in slot i, names the class of what is let out -/
def wFst (K : Fg) (c : Value) (i : Nat) (ts : Addr → Value → Option Addr → TS) (D : Ends) : WX := fun cls d σ H =>
  PySem.W.exmOne K cls c = some true ∧ ∀ a, H a = none →
    ts a cls d { nx := fun τ G => D.nx (τ.set i none) G, rt := D.rt, bk := fun τ G => D.bk (τ.set i none) G, ct := fun τ G => D.ct (τ.set i none) G } (σ.set i (some (.ref a))) H
section
variable {X : Cx} {x n : Str} {c : Value} {i : Nat} {body suite : List Stmt} {st0 : Stmt} {np q1 q2 : Pos} {more : List ExceptHandler} {tb : WX → TS} {ts : Addr → Value → Option Addr → TS}
theorem ps_try_first (hs : X.stack = X.env :: X.outer) (hf : X.env.frame = some X.env.locals) (hN : X.N.Nodup) (hi : X.N[i]? = some n) (hln : X.env.kindOf n = some .local) (hc : Names X x c)
    (hb : ∀ (W : WX) (pn : List (Addr × Obj)) (xe : Value → Shared → Prop), Takes (X.tr pn xe) W → PassesOwn (model X.prog X.w) X.A X.env xe → PSs (X.tr pn xe) body (tb W)) 
    (hsu : ∀ (a : Addr) (oe : Obj) (cls : Value) (d : Option Addr) (pn : List (Addr × Obj)), Zc cls d oe → (∃ vs, oe.data = .fields vs) → PSs (X.suite a ((a, oe) :: pn)) (st0 :: suite) (ts a cls d)) :
    PS X (.Try body (.ExceptHandler (some (.Name x np)) (some n) (st0 :: suite) q1 :: more) [] [] q2) (fun D σ H => tb (wFst X.K c i ts D) D σ H) := by
  constructor
  intro pins s σ H D I want
  have oX := I.ok
  have frames : X.A.frames = some (X.env :: X.outer) := by rw [← hs]; exact oX.frames
  refine wpAny_Try_except ?_
  refine wpAny_mono ((hb (wFst X.K c i ts D) (X.pn ++ pins) (fun u t1 => wpAny (model X.prog X.w) X.A (noteFrame u X.env) (fun _ t2 => wpAny (model X.prog X.w) X.A (setFlight u none) (fun _ t3 =>
      wpAny (model X.prog X.w) X.A (handleBy u X.env (.ExceptHandler (some (.Name x np)) (some n) (st0 :: suite) q1 :: more)) (SP X pins D) X.xe t3) X.xe t2) X.xe t1) ?landed PassesOwn.looking).run [] s σ H D (I.toTry _) want) ?after (fun _ _ z => z)
  case after =>
    intro fl t z
    cases fl with
    | next => obtain ⟨τ, G, J, q⟩ := z; exact wpAny_execs_nil ⟨τ, G, J.ofTry oX, q⟩
    | brk => obtain ⟨τ, G, J, q⟩ := z; exact ⟨τ, G, J.ofTry oX, q⟩
    | cont => obtain ⟨τ, G, J, q⟩ := z; exact ⟨τ, G, J.ofTry oX, q⟩
    | ret u => obtain ⟨v, τ, G, J, rv, q⟩ := z; exact ⟨v, τ, G, J.ofTry oX, rv, q⟩
  case landed =>
    rintro _ t ⟨a, B, t0, pins0, τ, G, cls, d, rfl, J0, ground, slots, sky, free, os, bare, matched, doit⟩
    have J : Inv X pins τ G t0 := J0.ofTry oX
    rw [hs] at sky
    show wpAny (model X.prog X.w) X.A (noteFrame (.ref a) X.env) _ _ _
    refine Sky.land Zc.steady frames hf sky fun h1 fly1 slots1 => ?_
    have notFrame : ∀ {h : Heap} {o : Obj}, h.FunFrames B (X.env :: X.outer) → h.get? a = some o → (∃ vs, o.data = .fields vs) → a ∉ frs (X.env :: X.outer) := by
      rintro h o ff ho ⟨vs, hd⟩ mem
      obtain ⟨_, o2, ho2, nf⟩ := ff.mem mem
      rw [ho] at ho2
      cases ho2
      exact nf _ hd
    obtain ⟨o1, vs1, g1, z1, f1⟩ := fly1.there
    have nf := notFrame fly1.2.2.1 g1 ⟨_, f1⟩
    have nLocals : a ≠ X.env.locals := fun e => nf (List.mem_filterMap.mpr ⟨X.env, List.mem_cons_self, by rw [e]; exact hf⟩)
    have nOuter : a ∉ X.fs := fun mem => by
      obtain ⟨en, hen, z⟩ := List.mem_filterMap.mp mem
      exact nf (List.mem_filterMap.mpr ⟨en, List.mem_cons_of_mem _ hen, z⟩)
    have J1 : Inv X pins τ G { t with heap := h1 } := J.landed ground fly1.1 (slots.trans slots1) os bare
    have S1 := J1.suite g1 f1 free nLocals nOuter
    refine wpAny_handleBy_cons (codeAny_handlers_test ?_) (fun z => nomatch z)
    have hisType : PySem.W.Looks (model X.prog X.w) h1 (typeOf (.ref a)) cls := fun A Q E s k q => wpAny_typeOf_ref (k _ _ g1) (z1.1.symm ▸ q)
    have look := PySem.W.exm_one (M := model X.prog X.w) J1.kIn hisType matched
    have named : ∀ {Q : Value → Shared → Prop} {E : Value → Shared → Prop}, Q c { t with heap := h1 } → wpAny (model X.prog X.w) (X.A.mark (some (.ref a))) (eval (.Name x np) X.env) Q E { t with heap := h1 } := by
      intro Q E hq
      rcases hc with ⟨gl, nd, m | ⟨m, bv, nm⟩⟩
      · exact ld_glob (X := X.suite a ((a, o1) :: (X.pn ++ pins))) S1 gl m hq nd
      · exact ld_blt (X := X.suite a ((a, o1) :: (X.pn ++ pins))) S1 gl m bv hq nm nd
    refine named (look.here (codeAny_handlers_suite_as ?_))
    refine HandSPX.lands_againZ fly1 fun h2 fly2 slots2 => ?_
    obtain ⟨o2, vs2, g2, z2, f2⟩ := fly2.there
    have J2 : Inv X pins τ G { t with heap := h2 } := J.landed ground fly2.1 ((slots.trans slots1).trans slots2) os bare
    have S2 := J2.suite g2 f2 free nLocals nOuter
    refine store_ok (X := X.suite a ((a, o2) :: (X.pn ++ pins))) (v := .ref a) S2 hN hi (Or.inl hln) rfl (fun t5 S5 => ?_) (Or.inr hln)
    refine wpAny_mono ((hsu a o2 cls d (X.pn ++ pins) z2 ⟨_, f2⟩).run [] t5 _ G _ S5 (doit a free)) (fun fl t6 z => ?_) (fun _ _ z => False.elim z)
    have gone : ∀ {τ6 : L2.St} {G6 : Hp} {Q : Shared → Prop}, Inv (X.suite a ((a, o2) :: (X.pn ++ pins))) [] τ6 G6 t6 → (∀ t7, Inv X pins (τ6.set i none) G6 t7 → Q t7) →
        wpAny (model X.prog X.w) X.A (do bindName X.env n .none; unbindBehindTheSuite X.env n q1) (fun _ t7 => Q t7) X.xe t6 := fun S6 hq => gone_ok (S6.unsuite oX) hN hi hln hq
    cases fl with
    | next => obtain ⟨τ6, G6, S6, q⟩ := z; exact gone S6 fun t7 J7 => ⟨_, _, J7, q⟩
    | brk => obtain ⟨τ6, G6, S6, q⟩ := z; exact gone S6 fun t7 J7 => ⟨_, _, J7, q⟩
    | cont => obtain ⟨τ6, G6, S6, q⟩ := z; exact gone S6 fun t7 J7 => ⟨_, _, J7, q⟩
    | ret u => obtain ⟨v, τ6, G6, S6, rv, q⟩ := z; exact gone S6 fun t7 J7 => ⟨_, _, _, J7, rv, q⟩
end
end PW

set_option Elab.async false
set_option linter.all false
set_option maxRecDepth 100000
set_option maxHeartbeats 2000000
/-! raise C(e, ..) in a def's text -/
namespace PW
open PySem L2 Evl PySem.Spec PyProof.Rows
theorem px_raise {X : Cx} {C fI : Addr} {fdI : FuncData} {ps ns : List Str} {E : XK} {x : Str} {e : Expr} {es : List Expr} {ta : TA} {p pos pos2 : Pos} (hc : X.calm = true) (tk : Takes X (wOwn E)) (T : OexC X.K C)
    (iC : PySem.W.findIn X.K (.ref C) "__init__" = some (some (.ref fI))) (tI : PySem.W.typeIn X.K (.ref fI) = some (.type "function")) (F1 : FnOk X.prog X.w X.K X.mg X.base CX0 1 fI fdI ps (spI C ns)) (hr : Room 2 X.A) (hb : Binds X.K fdI ps []) (hg : Gl X x) (hm : X.mg x = some (.ref C)) (ha : PA X (e :: es) ta)
    (hdb : (x == ("__debug__" : Str)) = false := by decide) (he : starEach (e :: es) X.env = (false, eval e X.env) :: starEach es X.env := by rfl) (hpl : (backTo pos (starEach es X.env)).any (·.1) = false := by rfl) :
    PS X (.Raise (some (.Call (.Name x p) (e :: es) [] pos)) none pos2) (tRaise C ns (wOwn E) ta) :=
  ps_raise hc tk (pmk_oex T iC tI F1 hr hb .nil (fun _ _ _ _ _ _ _ z => False.elim z) hg hm ha hdb he hpl)
end PW
namespace PW
open PySem L2 Evl PySem.Spec PyProof.Rows
/-- what is of a class is named by this class -/
theorem exm_self {K : Fg} {S : Addr} (sub : PySem.W.subIn K (.ref S) (.type "BaseException") = some true) (is : PySem.W.isClsIn K S = true) (ty : PySem.W.typeIn K (.ref S) = some (.type "type")) (self : PySem.W.subIn K (.ref S) (.ref S) = some true) : PySem.W.exmOne K (.ref S) (.ref S) = some true := by
  have is' : (PySem.W.clsIn K S).isSome = true := is
  unfold PySem.W.exmOne
  simp only [sub, beq_self_eq_true, if_true]
  unfold PySem.W.kitCls
  simp [is', ty, self]
section
variable {K : Fg} {δ : Dl} {M : Ms} {P : Po} {ta : TA} {n : Ent → Prop} {S : FE} {i j : Nat}
/-- try: f(..) / except c as e: told = [e.f1, e.f2]; all that f lets out is of one class, and c names it -/
theorem wb_tryF {c : Value} {C : Addr} {f1 f2 : Str} (hi : δ[i]? = some none) (hij : i ≠ j) (hc : PySem.W.exmOne K (.ref C) c = some true)
    (h : WD K ta δ M fun ds M1 => S ds (fun _ => P.nx δ M1) fun x => x.cls = C ∧ ∃ d1 d2, x.fs.lookup f1 = some d1 ∧ x.fs.lookup f2 = some d2 ∧ P.nx (δ.set j (some (.dat (.list [d1, d2])))) M1) :
    WB K n (fun D σ H => tDrop (tCallS (SpX K S) (L2.WE (wFst K c i (tTold2 C f1 f2 i j) D)) ta) D σ H) δ M P := fun e σ H Hd ls W hn r k1 k2 k3 k4 =>
  h σ H Hd ls _ r.sta fun vs ds M1 H1 Hd1 a1 s1 da hs => by
    have r1 := r.go a1 s1
    refine ⟨Hd1, ds, _, _, a1.sub, da, hs, fun v d H' Hd' x' s' dv q => ?_, fun x dd H' hk hd lf hR => ?_⟩
    · exact k1 _ M1 _ H' Hd' ls (r1.go (a1.up s' x') s'.all) (s1.ext.trans s'.ext) (List.prefix_refl _) q
    · obtain ⟨rfl, d1, d2, l1, l2, q⟩ := hR
      refine ⟨hc, fun a ha => ?_⟩
      have hil : i < σ.length := by
        rw [a1.dlen]
        exact (List.getElem?_eq_some_iff.mp hi).1
      have hgi : (σ.set i (some (V.ref a)))[i]? = some (some (.ref a)) := by rw [List.getElem?_set_self hil]
      have hk' : ∀ b o, H1 b = some o → H' b = some o := fun b o hb => hk b o hb (by simp)
      have s2 : Step H1 Hd1 [] H' Hd1 := ⟨Ex.refl _, fun b o hb _ => hk' b o hb, fun b _ h => h, fun b hb => by
        cases z : H1 b with
        | none => exact absurd z hb
        | some o => rw [hk' b o z]; simp⟩
      have a2 := a1.up s2 (fun b o hb => hk' b o (a1.sub b o hb))
      refine ⟨.ref a, hgi, rfl, rfl, dd, _, lfV d1, rfl, hd, lookup_lf l1, ?_⟩
      refine ⟨.ref a, hgi, rfl, rfl, dd, _, lfV d2, rfl, hd, lookup_lf l2, ?_⟩
      refine ⟨(show 2 ≤ sizeLine by rw [sizeLine_eq]; omega), fun p hp => ?_⟩
      have hdp : Hd1 p = none := by
        cases z : Hd1 p with
        | none => rfl
        | some o => rw [a2.sub p o z] at hp; cases hp
      have ex : Ex Hd1 (upd Hd1 p (.lst [lfV d1, lfV d2])) := Ex.new hdp
      have st : Step H' Hd1 [] (upd H' p (.lst [lfV d1, lfV d2])) (upd Hd1 p (.lst [lfV d1, lfV d2])) := ⟨ex, (step_new hp (Hd := Hd1)).old, fun b g1 g2 => by
        have : b ≠ p := fun z => g1 (z ▸ hp)
        rw [upd_ne this]; exact g2, (step_new hp (Hd := Hd1)).there⟩
      have a3 := a2.up st (fun b o z => by
        by_cases z' : b = p
        · subst z'; rw [upd_same] at z; cases z; exact upd_same
        · rw [upd_ne z'] at z; rw [upd_ne z']; exact a2.sub b o z)
      have dv : Dp K (upd Hd1 p (.lst [lfV d1, lfV d2])) (.ref p) (.list [d1, d2]) := .lst (SqL.of upd_same) (.cons (lf_dp (lookup_leaf l1 lf)) (.cons (lf_dp (lookup_leaf l2 lf)) .nil))
      have r3 := r1.go a3 (s2.all.trans st.all)
      have a4 := (set_junk a3 hi (some (V.ref a))).put (i := j) dv
      have hi' : (δ.set j (some (C.dat (.list [d1, d2]))))[i]? = some none := by rw [List.getElem?_set_ne (Ne.symm hij)]; exact hi
      have a5 := set_junk a4 hi' none
      exact k1 _ M1 _ _ _ ls ⟨a5, r3.step, r3.pre, r3.loc⟩ (s1.ext.trans ex) (List.prefix_refl _) q
end
end PW

set_option Elab.async false
set_option linter.all false
set_option maxRecDepth 100000
set_option maxHeartbeats 2000000
/-! a call that can raise but does not; text * int; text.upper() -/
namespace PW
open PySem L2 Evl PySem.Spec PyProof.Rows
section
variable {K : Fg} {δ : Dl} {M : Ms} {R : D → Ms → Prop} {ta : TA} {te : TE} {S : FE} {E : L2.St → XK}
theorem we_callX (h : WD K ta δ M fun ds M1 => S ds (fun d => R d M1) (fun _ => False)) : WE K (tCallS (SpX K S) E ta) δ M R := fun σ H Hd ls Q a k =>
  h σ H Hd ls _ a fun vs ds M1 H1 Hd1 a1 s1 da hs => by
    refine ⟨Hd1, ds, _, _, a1.sub, da, hs, fun v d H' Hd' x' s' dv q => ?_, fun x dd H' hk hd lf hR => hR.elim⟩
    exact k v d M1 H' Hd' (a1.up s' x') (s1.trans s'.all) dv q
end
abbrev wNo : WX := fun _ _ _ _ => False
def repT (a : Str) (n : Int) : Str := ⟨(List.replicate n.toNat a.cps).foldl (· ++ ·) #[]⟩
def rRepT : R2 := fun x y H Q => ∃ (a : Str) (n : Int), x = .str a ∧ y = .int n ∧ 2 ≤ n ∧ n ≤ 100 ∧ a.length = 1 ∧ Q (.str (repT a n)) H
theorem rep_size (c : Array Nat) : ∀ (n : Nat) (acc : Array Nat), ((List.replicate n c).foldl (· ++ ·) acc).size = acc.size + n * c.size
  | 0, acc => by simp
  | n + 1, acc => by
    rw [List.replicate_succ, List.foldl_cons, rep_size c n]
    rw [Array.size_append, Nat.succ_mul]
    omega
theorem repT_len (a : Str) (n : Int) : (repT a n).length = n.toNat * a.length := by
  show ((List.replicate n.toNat a.cps).foldl (· ++ ·) #[]).size = _
  rw [rep_size]
  show 0 + n.toNat * a.cps.size = _
  rw [Nat.zero_add]
  rfl
theorem op_repT {X : Cx} : OpR X (binaryOp .Mult) rRepT := by
  intro pins s σ H x y v u Q I rx ry h
  obtain ⟨a, n, rfl, rfl, h2, h100, ha, q⟩ := h
  obtain ⟨t, rfl⟩ := rx
  obtain ⟨tk, rfl⟩ := ry
  have e1 : (n == 1) = false := by simp; omega
  have e2 : (a.length == 0) = false := by rw [ha]; rfl
  refine P.mul_str (by rw [decide_eq_false (show ¬ n < -(2 ^ 63 : Int) by omega), decide_eq_false (show ¬ n ≥ 2 ^ 63 by omega)]; rfl) (fun _ _ => ?_) (fun _ _ => ?_) ?_
  · rw [ha]
    have : (1 : Int) ≤ (2 ^ 63 - 1) / n := by
      rw [Int.le_ediv_iff_mul_le (by omega)]
      omega
    omega
  · rw [ha, Nat.one_mul]
    unfold Builtin.Str.tooLong
    rw [decide_eq_false]
    rw [sizeLine_eq]
    omega
  · rw [if_neg (by omega), e1, e2]
    have hz : (repT a n).length ≤ sizeLine := by rw [repT_len, ha, sizeLine_eq]; omega
    exact ⟨hz, .str _, H, I.tok _, ⟨_, rfl⟩, q⟩
theorem od_repT {K : Fg} {a : Str} {n : Int} {R : D → Prop} (h2 : 2 ≤ n) (h3 : n ≤ 100) (ha : a.length = 1) (q : R (.str (repT a n))) : OD K rRepT (.str a) (.int n) R := fun H Hd v w Q ex dx dy k => by
  cases dx
  cases dy
  exact ⟨a, n, rfl, rfl, h2, h3, ha, k _ _ H Hd Step.refl ex (.str _) q⟩
theorem we_upper {K : Fg} {δ : Dl} {M : Ms} {R : D → Ms → Prop} {te : TE} (h : WE K te δ M fun d M1 => ∃ a : Str, d = .str a ∧ a.length ≤ 50000 ∧ R (.str (Txt.upper a)) M1) : WE K (tM0 (fun x xs H Q => ∃ a, x = .str a ∧ xs = [] ∧ a.length ≤ 5592405 ∧ Q (.str (Txt.upper a)) H) te) δ M R := fun σ H Hd ls Q a k =>
  h σ H Hd ls _ a fun v d M1 H1 Hd1 a1 s1 dv q => by
    obtain ⟨x, rfl, hl, q⟩ := q
    cases dv
    exact ⟨⟨_, rfl⟩, x, rfl, rfl, by omega, k _ _ M1 H1 Hd1 a1 s1 (.str _) q⟩
end PW

set_option Elab.async false
set_option linter.all false
set_option maxRecDepth 100000
set_option maxHeartbeats 2000000
/-! x in d.values() -/
namespace PW
open PySem L2 Evl PySem.Spec PyProof.Rows
theorem vals_nocontains : typeLookup (.type "dict_values") "__contains__" = pure none := by rw [typeLookup_type, builtinLookup_eq_fast]; kernel_rfl
theorem entry_cit : entryFor table "proto.contains_iter" = some Builtin.«proto.contains_iter» := entryFor_of_fast (by kernel_rfl)
theorem plain_cit : plainId "proto.contains_iter" = true := by decide +kernel
section
variable {prog : Program} {w : World}
theorem cit_loop {I : Addr} {fp wr : List Addr} {n : Nat} {P : Nat → Value → Prop} {St : Nat → Heap → Prop} {A0 : Around} (W : ∀ A : Around, A.handled = A0.handled → Walks prog w A I fp wr n P St) (x : Value) (f : Nat → Bool)
    (he : ∀ i v, P i v → ∀ A s, SeqAt.EqAt A s v x (f i)) : ∀ (k i : Nat), n - i = k → i ≤ n → ∀ (A : Around) (s : Shared) (R : Except Value Flow → Shared → Prop), A.handled = A0.handled → St i s.heap →
      (∀ h' tk, (∀ b o, b ∉ wr → s.heap.get? b = some o → h'.get? b = some o) → R (.ok (.ret (.bool ((List.range' i (n - i)).any f)))) { s with heap := h', toks := tk }) →
      codeAny (model prog w) A (.builtin "proto.contains_iter" ⟨[.ref I, x], []⟩) R s := by
  intro k
  induction k with
  | zero =>
    intro i hk hi A s R hA hst hR
    have hin : i = n := by omega
    subst hin
    refine codeAny_builtin entry_cit ?_
    rw [Around.under_plainId plain_cit]
    unfold Builtin.«proto.contains_iter»
    refine wpAny_bind ((W A.in1 hA).done s _ _ hst fun h' tk hk' => ?_)
    have := hR h' tk hk'
    rw [Nat.sub_self] at this
    exact wpAny_bind (wpAny_rule (wpAny_pure this))
  | succ k ih =>
    intro i hk hi A s R hA hst hR
    refine codeAny_builtin entry_cit ?_
    rw [Around.under_plainId plain_cit]
    unfold Builtin.«proto.contains_iter»
    refine wpAny_bind ((W A.in1 hA).item i s _ _ (by omega) hst fun v h' tk hP hst' hk' => ?_)
    refine wpAny_bind (he i v hP A.in1 _ prog w _ _ ?_)
    have e : List.range' i (n - i) = i :: List.range' (i + 1) (n - (i + 1)) := by
      rw [show n - i = (n - (i + 1)) + 1 by omega]
      rfl
    rw [e] at hR
    cases hb : f i with
    | true =>
      have := hR h' tk hk'
      rw [List.any_cons, hb] at this
      exact wpAny_bind (wpAny_rule (wpAny_pure this))
    | false =>
      refine wpAny_pure ⟨plainId_quiet plain_cit _, ?_⟩
      refine ih (i + 1) (by omega) (by omega) A _ R hA hst' fun h2 tk2 hk2 => ?_
      have := hR h2 tk2 fun b o hb' hg => hk2 b o hb' (hk' b o hb' hg)
      rw [List.any_cons, hb, Bool.false_or] at this
      exact this
theorem in_values {knd : PySem.KeyKind prog w Key} {A : Around} {E : Value → Shared → Prop} {s : Shared} {v d : Addr} {kvs : List (Key × Value)} {ep : Nat} {Q : Bool → Shared → Prop} (hh : A.handled = none)
    (hv : s.heap.IsValuesView v d) (hm : s.heap.DictAt knd d kvs ep) (x : Value) (f : Nat → Bool) (he : ∀ i v, (∃ k, kvs[i]? = some (k, v)) → ∀ A s, SeqAt.EqAt A s v x (f i))
    (hQ : ∀ h' tk, (∀ b o, s.heap.get? b = some o → h'.get? b = some o) → Q ((List.range kvs.length).any f) { s with heap := h', toks := tk }) : wpAny (model prog w) A (contains (.ref v) x) Q E s := by
  unfold contains
  refine wpAny_holding ?_
  rw [stdlibNamesSay?_of_typeIs hv.typeIs]
  refine wpAny_bind (wpAny_specialOf hv.typeIs vals_nocontains ?_)
  show wpAny _ A (if ((none : Option Value) == some Value.none) = true then _ else _) Q E s
  rw [if_neg (by decide)]
  refine wpAny_bind ?_
  unfold callSpecialUnlessNone?
  refine wpAny_bind (wpAny_specialOf hv.typeIs vals_nocontains (wpAny_pure ?_))
  refine wpAny_bind (wpAny_rule ?_)
  obtain ⟨od, es, ho, hrest⟩ := id hm
  have hlt : d < s.heap.objs.size := Heap.lt_size ho
  refine wpAny_bind (wpAny_tryCatch (wpAny_pyIter_values hv hm ?_))
  refine wpAny_bind (wpAny_runValue ?_)
  refine cit_loop (A0 := A) (fun A' hA' => Walks.dictValues (knd := knd) (hA'.trans hh) s.heap.objs.size d (Nat.ne_of_lt hlt) kvs ep) x f he _ 0 rfl (Nat.zero_le _) _ _ _ rfl ⟨⟨_, Heap.get?_push_size _ rfl, rfl, rfl⟩, hm.keep fun b u e => Heap.get?_push_of_some _ e⟩ fun h' tk hk => ?_
  refine wpAny_pure ?_
  rw [Nat.sub_zero, ← List.range_eq_range'] 
  refine hQ h' tk fun b o hb => hk b o (fun hm2 => ?_) (Heap.get?_push_of_some _ hb)
  have e1 : b = s.heap.objs.size := List.mem_singleton.mp hm2
  exact absurd (e1 ▸ Heap.lt_size hb) (Nat.lt_irrefl _)
end
theorem kv_at {kvs : List (Key × V)} {vs : List (Key × Value)} (r : KV kvs vs) : ∀ {i : Nat} {k : Key} {v : Value}, vs[i]? = some (k, v) → ∃ x, kvs[i]? = some (k, x) ∧ L2.RelV x v := by
  unfold KV at r
  induction r with
  | nil =>
    intro i k v e
    simp at e
  | cons r t ih =>
    intro i k v e
    cases i with
    | zero =>
      have e' := Option.some.inj (show some _ = some (k, v) from e)
      rw [e'] at r
      exact ⟨_, (show some _ = some (k, _) from congrArg some (Prod.ext r.1 rfl)), r.2⟩
    | succ i =>
      obtain ⟨x, h1, h2⟩ := ih (i := i) (k := k) (v := v) (by simpa using e)
      exact ⟨x, by simpa using h1, h2⟩
theorem any_range {α : Type} (f : α → Bool) : ∀ l : List α, (List.range l.length).any (fun i => (l[i]?).any f) = l.any f
  | [] => rfl
  | c :: r => by
    rw [List.length_cons, List.range_succ_eq_map, List.any_cons, List.any_map, List.any_cons, ← any_range f r]
    rfl
/-- x in d.values(), flat values -/
def tInVals (ta td : TE) : TT := fun σ H Q => ta σ H fun x H1 => td σ H1 fun y H2 => ∃ p kvs, y = .ref p ∧ H2 p = some (.dK kvs) ∧ flatV x = true ∧ (kvs.map (·.2)).all flatV = true ∧ Q (inV x (kvs.map (·.2))) H2
section
variable {X : Cx} {a o : Expr} {pos apos mpos : Pos} {ta td : TE}
theorem pt_inVals (hc : X.calm = true) (ha : PE X a ta) (hd : PE X o td) (hbase : attributeBase o "values" X.env (eval o X.env) = eval o X.env := by rfl) (hline : (apos.endLine == mpos.line) = true := by rfl)
    (hm : behindInMarks .In (Expr.Call (.Attribute o "values" apos) [] [] mpos) = false := by rfl) :
    PT X (.Compare a [.In] [.Call (.Attribute o "values" apos) [] [] mpos] pos) (tInVals ta td) := by
  refine ⟨fun pins s σ H Q I h => ?_⟩
  refine wpAny_isTrue_Compare1 (thn (ha.run pins s σ H _ I h) fun v s1 ⟨x, H1, I1, r1, q1⟩ => ?_) hm
  refine wpAny_Call_method0_late hbase hline (thn (hd.run pins s1 σ H1 _ I1 q1) fun u s2 ⟨y, H2, I2, r2, p, kvs, ey, hp, fx, fs, q⟩ => ?_)
  subst ey
  obtain rfl : u = Value.ref p := r2
  obtain ⟨_, hsys, vs, rel, dof⟩ := dk_of I2.hok hp
  obtain ⟨ep, dat⟩ := dof.dictAt
  have dat' := dat
  obtain ⟨ob, es, ho, ex, hdat, hko, hpr, hnd⟩ := dat'
  refine ⟨"dict", "dict.values", F.plainAttrs_dict, F.slot_dict_values, F.type_dict_values, ⟨ob, ho, ex.1⟩, fun b e => ?_, Calls.callWith_builtin rfl (PySem.evalArgs_none ?_)⟩
  · cases e
    exact ⟨ob, ho, ex.2.1⟩
  refine call_meetsIn F.slot_dict_values ⟨ob, ho, ex.1⟩ F.entry_dict_values (F.args_dict_values_1 _) (meets_dict_values (mixKind X.prog X.w) p hsys) ⟨⟨vs, dof⟩, ?_⟩
  have k1 : ∀ b u, s2.heap.get? b = some u → (s2.heap.push { cls := .type "dict_values", data := .fields #[.ref p] }).get? b = some u := fun b u e => Heap.get?_push_of_some _ e
  have dat1 : (s2.heap.push { cls := .type "dict_values", data := .fields #[.ref p] }).DictAt (mixKind X.prog X.w) p vs ep := dat.keep k1
  have hlen : vs.length = kvs.length := (KV.length rel).symm
  show wpAny _ X.A (compareOp .In v (.ref s2.heap.objs.size)) _ _ _
  refine wpAny_bind (in_values (I.ok.hd hc) ⟨_, Heap.get?_push_size _ rfl, rfl, rfl⟩ dat1 v (fun i => (kvs[i]?).any fun q => eqV q.2 x) (fun i v' hkx A' s' => ?_) fun h' tk hk => ?_)
  · obtain ⟨k, hk⟩ := hkx
    obtain ⟨z, h1, h2⟩ := kv_at rel hk
    have hz : flatV z = true := List.all_eq_true.mp fs z (List.mem_map.mpr ⟨_, List.mem_of_getElem? h1, rfl⟩)
    show SeqAt.EqAt A' s' v' v ((kvs[i]?).any fun q => eqV q.2 x)
    rw [h1]
    exact eqAt_V h2 r1 hz fx
  · refine wpAny_pure ?_
    refine wpAny_truthy_bool ⟨H2, I2.kept (t' := tk) fun b u e => hk b u (k1 b u e), ?_⟩
    have e : (List.range vs.length).any (fun i => (kvs[i]?).any fun q => eqV q.2 x) = inV x (kvs.map (·.2)) := by
      unfold inV
      rw [hlen, List.any_map]
      exact any_range (fun q : Key × V => eqV q.2 x) kvs
    rw [e]
    exact q
end
end PW

set_option Elab.async false
set_option linter.all false
set_option maxRecDepth 100000
set_option maxHeartbeats 2000000
namespace PW
open PySem L2 Evl PySem.Spec PyProof.Rows
theorem joK {X : Cx} {K : Fg} (h : X.K = K) : MtR X "str.join" (rJoin K) := h ▸ mt_joinK
end PW
namespace PW
open PySem L2 Evl PySem.Spec PyProof.Rows
/-- a fresh list, taken as data -/
theorem od_ol {K : Fg} {r : R2} {x y : D} {R : D → Prop} (h : OL K r x y fun ds => R (.list ds)) : OD K r x y R := fun H Hd v w Q ex dx dy k =>
  h H Hd v w Q ex dx dy fun p xs ds hp da q => by
    have hd : Hd p = none := fresh_hd ex hp
    have en : Ex Hd (upd Hd p (.lst xs)) := Ex.new hd
    refine k (.ref p) (.list ds) (upd H p (.lst xs)) (upd Hd p (.lst xs)) ⟨en, (step_new hp (Hd := Hd)).old, fun b h1 h2 => ?_, (step_new hp (Hd := Hd)).there⟩ (fun b o e => ?_) (.lst (SqL.of upd_same) (da.up en)) q
    · have : b ≠ p := fun z => h1 (z ▸ hp)
      rw [upd_ne this]; exact h2
    · by_cases e' : b = p
      · subst e'; rw [upd_same] at e; cases e; exact upd_same
      · rw [upd_ne e'] at e; rw [upd_ne e']; exact ex b o e
end PW

set_option Elab.async false
set_option linter.all false
set_option maxRecDepth 100000
set_option maxHeartbeats 2000000
/-! dicts of texts to leaves: data, and owned -/
namespace PW
open PySem L2 Evl PySem.Spec PyProof.Rows
abbrev kvD (ps : List (Str × D)) : List (Key × V) := ps.map fun p => ((.inr p.1 : Key), lfV p.2)
abbrev dcD (ps : List (Str × D)) : D := .dict (ps.map fun p => (PyData.str p.1, p.2))
abbrev TD (ps : List (Str × D)) : MO := .dic (ps.map fun p => ((.inr p.1 : Key), p.2))
abbrev lfP (ps : List (Str × D)) : Prop := (ps.all fun p => lfD p.2) = true
def getP : List (Str × D) → Str → Option D
  | [], _ => none
  | p :: r, x => if p.1 = x then some p.2 else getP r x
def putS (ps : List (Str × D)) (x : Str) (d : D) : List (Str × D) := if (ps.any fun p => decide (p.1 = x)) = true then ps.map (fun p => if p.1 = x then (p.1, d) else p) else ps ++ [(x, d)]
theorem key_inj {x y : Str} : ((.inr x : Key) = .inr y) = (x = y) := by simp
theorem val_kv {x : Str} : ∀ ps : List (Str × D), valV (kvD ps) (.inr x) = (getP ps x).map lfV
  | [] => rfl
  | p :: r => by
    show valV (((.inr p.1 : Key), lfV p.2) :: kvD r) (.inr x) = (if p.1 = x then some p.2 else getP r x).map lfV
    by_cases h : p.1 = x
    · rw [if_pos h, valV_pos (by rw [key_inj]; exact h)]
      rfl
    · rw [if_neg h, valV_neg (by rw [key_inj]; exact h), val_kv r]
theorem put_kv {x : Str} {d : D} (ps : List (Str × D)) : putK (kvD ps) (.inr x) (lfV d) = kvD (putS ps x d) := by
  unfold putK putS
  have e : ((kvD ps).any fun kv => decide (kv.1 = (.inr x : Key))) = ps.any fun p => decide (p.1 = x) := by
    rw [List.any_map]
    congr 1
    funext p
    simp
  rw [e]
  split
  · unfold kvD
    rw [List.map_map, List.map_map]
    refine List.map_congr_left fun p _ => ?_
    show (if (.inr p.1 : Key) = .inr x then ((.inr p.1 : Key), lfV d) else (.inr p.1, lfV p.2)) = _
    by_cases h : p.1 = x
    · rw [if_pos (by rw [key_inj]; exact h)]
      show _ = ((.inr (if p.1 = x then (p.1, d) else p).1 : Key), lfV (if p.1 = x then (p.1, d) else p).2)
      rw [if_pos h]
    · rw [if_neg (by rw [key_inj]; exact h)]
      show _ = ((.inr (if p.1 = x then (p.1, d) else p).1 : Key), lfV (if p.1 = x then (p.1, d) else p).2)
      rw [if_neg h]
  · simp
theorem put_lf {x : Str} {d : D} {ps : List (Str × D)} (h : lfP ps) (hd : lfD d = true) : lfP (putS ps x d) := by
  unfold lfP putS at *
  split
  · rw [List.all_map]
    refine List.all_eq_true.mpr fun p hp => ?_
    show lfD (if p.1 = x then (p.1, d) else p).2 = true
    split
    · exact hd
    · exact List.all_eq_true.mp h p hp
  · rw [List.all_append, h]
    simp [hd]
theorem lf_same {H : Hp} {K : Fg} {v : V} {d : D} (h : Dp K H v d) (f : lfD d = true) : v = lfV d := by
  cases h with
  | non => rfl
  | bl _ => rfl
  | int _ => rfl
  | str _ => rfl
  | lst _ _ => cases f
  | tup _ _ => cases f
  | dic _ _ _ => cases f
theorem lf_is {H : Hp} {K : Fg} {d : D} (f : lfD d = true) : Dp K H (lfV d) d := by
  cases d with
  | none => exact .non
  | bool b => exact .bl b
  | int i => exact .int i
  | str x => exact .str x
  | list _ => cases f
  | tuple _ => cases f
  | dict _ => cases f
theorem dpa_erase {K : Fg} {H : Hp} : ∀ {vs : List V} {ds : List D}, DpAll K H vs ds → ∀ j : Nat, DpAll K H (vs.eraseIdx j) (ds.eraseIdx j)
  | _, _, .nil, _ => .nil
  | _, _, .cons h1 h2, 0 => h2
  | _, _, .cons h1 h2, j + 1 => .cons h1 (dpa_erase h2 j)
section
variable {K : Fg} {Hd H : Hp} {l : Addr} {ps : List (Str × D)}
theorem td_at (h : MAt K Hd H l (TD ps)) (lf : lfP ps) : Hd l = none ∧ H l = some (.dK (kvD ps)) := by
  obtain ⟨n, us, hu, hk, da⟩ := h
  refine ⟨n, ?_⟩
  rw [hu]
  congr 2
  clear hu n
  induction ps generalizing us with
  | nil =>
    cases us with
    | nil => rfl
    | cons _ _ => cases hk
  | cons p r ih =>
    cases us with
    | nil => cases hk
    | cons u us =>
      unfold lfP at lf
      rw [List.all_cons, Bool.and_eq_true] at lf
      cases da with
      | cons d1 d2 =>
        simp only [List.map_cons, List.cons.injEq] at hk
        show u :: us = ((.inr p.1 : Key), lfV p.2) :: kvD r
        rw [ih lf.2 us hk.2 d2, ← lf_same d1 lf.1, ← hk.1]
theorem td_mk (n : Hd l = none) (h : H l = some (.dK (kvD ps))) (lf : lfP ps) : MAt K Hd H l (TD ps) := by
  refine ⟨n, _, h, ?_, ?_⟩
  · unfold kvD
    rw [List.map_map, List.map_map]
    rfl
  · clear h n
    unfold kvD
    rw [List.map_map, List.map_map]
    induction ps with
    | nil => exact .nil
    | cons p r ih =>
      unfold lfP at lf
      rw [List.all_cons, Bool.and_eq_true] at lf
      exact .cons (lf_is lf.1) (ih lf.2)
theorem dic_is {v : V} (h : Dp K Hd v (dcD ps)) : ∃ a, v = .ref a ∧ L2.Rd Hd a (.dK (kvD ps)) ∧ lfP ps := by
  cases h with
  | dic h0 h1 h2 =>
    obtain rfl := map_str_inj h0
    exact ⟨_, rfl, h1, h2⟩
theorem rd_up (e : Ex Hd H) {a : Addr} {u : HO} (h : L2.Rd Hd a u) : L2.Rd H a u := h.imp (e _ _) fun ⟨o, h⟩ => ⟨o, e _ _ h⟩
end
section
variable {K : Fg} {n : Ent → Prop} {δ : Dl} {M M' : Ms} {σ : L2.St} {H Hd : Hp} {ls : List Addr} {P : Po} {te ti ta tv ty tl : TE} {R : D → Ms → Prop} {RL : List D → Ms → Prop} {RB : Bool → Ms → Prop} {d : D}
/-- d[k] of data -/
theorem we_dgetD {i : Nat} {ps : List (Str × D)} (ho : δ[i]? = some (some (.dat (dcD ps)))) (h : WE K ty δ M fun y M1 => ∃ x d, y = .str x ∧ getP ps x = some d ∧ R d M1) : WE K (tDGet (tVar i) ty) δ M R := fun σ H Hd ls Q a kk => by
  obtain ⟨v, hv, dv⟩ := a.dat i _ ho
  refine ⟨v, hv, h σ H Hd ls _ a fun w y M1 H1 Hd1 a1 s1 dw h1 => ?_⟩
  obtain ⟨x, d, rfl, hg, hr⟩ := h1
  cases dw
  obtain ⟨ad, rfl, rd, lf⟩ := dic_is (dv.up s1.ext)
  have e := val_kv (x := x) ps
  rw [hg] at e
  have hl : lfD d = true := by
    clear e dv rd kk h ho hr hv
    induction ps with
    | nil => cases hg
    | cons p r ih =>
      unfold lfP at lf
      rw [List.all_cons, Bool.and_eq_true] at lf
      unfold getP at hg
      split at hg
      · cases hg; exact lf.1
      · exact ih hg lf.2
  exact ⟨ad, lfV d, rfl, .inl ⟨_, .inr x, rd_up a1.sub rd, rfl, e.symm⟩, kk _ _ M1 H1 Hd1 a1 s1 (lf_is hl) hr⟩
/-- k in d, of data -/
theorem we_dinD {i : Nat} {ps : List (Str × D)} (ho : δ[i]? = some (some (.dat (dcD ps)))) (h : WE K ty δ M fun y M1 => ∃ x, y = .str x ∧ R (.bool (getP ps x).isSome) M1) : WE K (tDIn ty (tVar i)) δ M R := fun σ H Hd ls Q a kk => by
  refine h σ H Hd ls _ a fun w y M1 H1 Hd1 a1 s1 dw h1 => ?_
  obtain ⟨v, hv, dv⟩ := a1.dat i _ ho
  obtain ⟨x, rfl, hr⟩ := h1
  cases dw
  obtain ⟨ad, rfl, rd, lf⟩ := dic_is dv
  refine ⟨_, hv, ad, _, rfl, .inl ⟨_, .inr x, rd_up a1.sub rd, rfl, rfl⟩, ?_⟩
  rw [val_kv, Option.isSome_map]
  exact kk _ _ M1 H1 Hd1 a1 s1 (.bl _) hr
/-- k in an own dict -/
theorem we_dinO {i k : Nat} (ho : δ[i]? = some (some (.own k))) (h : WE K ty δ M fun y M1 => ∃ x ps, y = .str x ∧ M1[k]? = some (TD ps) ∧ lfP ps ∧ R (.bool (getP ps x).isSome) M1) : WE K (tDIn ty (tVar i)) δ M R := fun σ H Hd ls Q a kk => by
  refine h σ H Hd ls _ a fun w y M1 H1 Hd1 a1 s1 dw h1 => ?_
  obtain ⟨l, hl, hv⟩ := a1.own i k ho
  obtain ⟨x, ps, rfl, hm, lf, hr⟩ := h1
  cases dw
  obtain ⟨n0, hd⟩ := td_at (a1.obj k l _ hl hm) lf
  refine ⟨_, hv, l, _, rfl, DGet.k (k := .inr x) hd, ?_⟩
  rw [val_kv, Option.isSome_map]
  exact kk _ _ M1 H1 Hd1 a1 s1 (.bl _) hr
/-- own[k] = leaf -/
theorem wb_tput {i k : Nat} (ho : δ[i]? = some (some (.own k))) (h : WE K tv δ M fun v M1 => WE K ty δ M1 fun y M2 => ∃ x ps, y = .str x ∧ lfD v = true ∧ M2[k]? = some (TD ps) ∧ lfP ps ∧ ps.length < sizeLine ∧ P.nx δ (M2.set k (TD (putS ps x v)))) : WB K n (sDPut (tVar i) ty tv) δ M P := fun e σ H Hd ls W hn r k1 k2 k3 k4 =>
  h σ H Hd ls _ r.sta fun v vd M1 H1 Hd1 a1 s1 dv h1 => by
    obtain ⟨l, hl, hv⟩ := a1.own i k ho
    refine ⟨_, hv, h1 σ H1 Hd1 ls _ a1 fun w y M2 H2 Hd2 a2 s2 dw h2 => ?_⟩
    obtain ⟨x, ps, rfl, lv, hm, lf, hz, hr⟩ := h2
    cases dw
    obtain ⟨n0, hd⟩ := td_at (a2.obj k l _ hl hm) lf
    have s12 := s1.trans s2
    obtain rfl := lf_same dv lv
    refine ⟨l, _, rfl, DPut.k (k := .inr x) hd (by rw [List.length_map]; exact hz), ?_⟩
    rw [put_kv]
    have hs : Sta K δ (M2.set k (TD (putS ps x vd))) σ (upd H2 l (.dK (kvD (putS ps x vd)))) Hd2 ls := a2.write hl n0 (td_mk n0 upd_same (put_lf lf lv))
    have st := s12.trans (step_write (o := .dK (kvD (putS ps x vd))) hl (by rw [hd]; simp))
    exact k1 _ _ _ _ Hd2 ls (r.go hs st) st.ext (List.prefix_refl _) hr
/-- x = {}, owned -/
theorem wb_asgTD {i : Nat} (q : P.nx (δ.set i (some (.own M.length))) (M ++ [TD []])) : WB K n (tAsg tDNewK (gName i)) δ M P := fun e σ H Hd ls W hn r k1 k2 k3 k4 => by
  show ∀ p, H p = none → _
  intro p hp
  have a1 := sta_new r.sta (o := .dK []) hp
  have s1 : Step H Hd ls (upd H p (.dK [])) Hd := (step_new hp).all
  have r1 := r.go a1 s1
  exact k1 _ _ _ _ Hd (ls ++ [p]) (r1.adopt (m := TD []) (td_mk (fresh_hd r.sta.sub hp) upd_same rfl) (not_ls r.sta hp) (ent_none r hp)) (Ex.refl _) (List.prefix_append _ _) q
/-- x, y = a fresh list, {} -/
theorem wb_parOD {i j : Nat} (h : WL K tl δ M fun ds M1 => P.nx ((δ.set i (some (.own M1.length))).set j (some (.own (M1.length + 1)))) (M1 ++ [.lst ds] ++ [TD []])) : WB K n (tPar i j (tCons tl (tCons tDNewK tNil))) δ M P := fun e σ H Hd ls W hn r k1 k2 k3 k4 => by
  refine h σ H Hd ls _ r.sta fun p1 xs1 es1 M1 H1 Hd1 a1 s1 hp1 hd1 n1 hx1 dx1 q => ?_
  show ∀ p, H1 p = none → _
  intro p hp
  have a2 := sta_new a1 (o := .dK []) hp
  have s2 : Step H1 Hd1 ls (upd H1 p (.dK [])) Hd1 := (step_new hp).all
  have r2 := r.go a2 (s1.trans s2)
  have ne : p1 ≠ p := fun z => by rw [← z, hx1] at hp; cases hp
  have hp0 : H p = none := by
    cases e0 : H p with
    | none => rfl
    | some o => exact absurd hp (s1.there p (by rw [e0]; simp))
  have r3 := r2.adopt (i := i) (m := .lst es1) ⟨hd1, xs1, by rw [upd_ne ne]; exact hx1, dx1⟩ n1 (ent_none r hp1)
  have r4 := r3.adopt (i := j) (m := TD []) (td_mk (fresh_hd a1.sub hp) upd_same rfl) (fun z => by
    rcases List.mem_append.mp z with z | z
    · exact not_ls a1 hp z
    · exact ne (List.mem_singleton.mp z).symm) (ent_none r hp0)
  have e2 : (M1 ++ [MO.lst es1]).length = M1.length + 1 := by simp
  rw [e2] at r4
  refine ⟨_, _, rfl, ?_⟩
  exact k1 _ _ _ _ Hd1 _ r4 s1.ext ((List.prefix_append _ _).trans (List.prefix_append _ _)) q
/-- an owned dict that nothing changes any more is data -/
theorem wb_frzD {t : TS} {i k : Nat} {ps : List (Str × D)} (ho : δ[i]? = some (some (.own k))) (hm : M[k]? = some (TD ps)) (lf : lfP ps) (hk : ∀ e, n e → e.ls.length ≤ k) (h : WB K n t (δ.set i (some (.dat (dcD ps)))) (M.set k .gone) P) : WB K n t δ M P := fun e σ H Hd ls W hn r k1 k2 k3 k4 => by
  obtain ⟨l, hl, hv⟩ := r.sta.own i k ho
  obtain ⟨n0, hx⟩ := td_at (r.sta.obj k l _ hl hm) lf
  have ex : Ex Hd (upd Hd l (.dK (kvD ps))) := Ex.new n0
  have eloc := r.loc k l hl (hk e hn)
  have kM : k < M.length := (List.getElem?_eq_some_iff.mp hm).1
  have apart : ∀ (j : Nat) x, ls[j]? = some x → j ≠ k → x ≠ l := fun j x h1 hj z => by
    obtain ⟨p1, q1⟩ := List.getElem?_eq_some_iff.mp hl
    obtain ⟨p2, q2⟩ := List.getElem?_eq_some_iff.mp h1
    exact hj ((List.getElem_inj r.sta.nd).mp (q2.trans (z.trans q1.symm)))
  have sub2 : Ex (upd Hd l (.dK (kvD ps))) H := fun b u hb => by
    by_cases z : b = l
    · subst z; rw [upd_same] at hb; cases hb; exact hx
    · rw [upd_ne z] at hb; exact r.sta.sub b u hb
  have a2 : Sta K δ (M.set k .gone) σ H (upd Hd l (.dK (kvD ps))) ls := by
    refine ⟨sub2, by rw [List.length_set]; exact r.sta.mlen, r.sta.nd, fun j x y h1 h2 => ?_, r.sta.dlen, fun j d h => ?_, r.sta.own⟩
    · by_cases hj : k = j
      · subst hj
        rw [List.getElem?_set_self kM] at h2
        rw [hl] at h1
        cases h1
        cases h2
        show upd Hd l _ l ≠ none
        rw [upd_same]; exact fun z => nomatch z
      · rw [List.getElem?_set_ne hj] at h2
        have hxl := apart j x h1 (Ne.symm hj)
        have := r.sta.obj j x y h1 h2
        cases y with
        | lst es => exact ⟨by rw [upd_ne hxl]; exact this.1, this.2.choose, this.2.choose_spec.1, this.2.choose_spec.2.up ex⟩
        | dic es => exact ⟨by rw [upd_ne hxl]; exact this.1, this.2.choose, this.2.choose_spec.1, this.2.choose_spec.2.1, this.2.choose_spec.2.2.up ex⟩
        | gone =>
          show upd Hd l _ x ≠ none
          rw [upd_ne hxl]; exact this
    · obtain ⟨v, h1, h2⟩ := r.sta.dat j d h
      exact ⟨v, h1, h2.up ex⟩
  have dv : Dp K (upd Hd l (.dK (kvD ps))) (.ref l) (dcD ps) := .dic rfl (.inl upd_same) lf
  have a3 := a2.put (i := i) dv
  have es : σ.set i (some (.ref l)) = σ := by
    obtain ⟨hi, hv'⟩ := List.getElem?_eq_some_iff.mp hv
    rw [← hv', List.set_getElem_self]
  rw [es] at a3
  refine h e σ H _ ls W hn ⟨a3, ⟨r.step.ext.trans ex, r.step.old, fun b h1 h2 => ?_, r.step.there⟩, r.pre, r.loc⟩ (fun δ2 M2 σ2 H2 Hd2 ls2 r2 x2 => k1 δ2 M2 σ2 H2 Hd2 ls2 r2 (ex.trans x2)) (fun v d δ2 M2 σ2 H2 Hd2 ls2 r2 x2 => k2 v d δ2 M2 σ2 H2 Hd2 ls2 r2 (ex.trans x2)) (fun δ2 M2 σ2 H2 Hd2 ls2 r2 x2 => k3 δ2 M2 σ2 H2 Hd2 ls2 r2 (ex.trans x2)) (fun δ2 M2 σ2 H2 Hd2 ls2 r2 x2 => k4 δ2 M2 σ2 H2 Hd2 ls2 r2 (ex.trans x2))
  have : b ≠ l := fun z => h1 (z ▸ eloc)
  rw [upd_ne this]; exact r.step.new b h1 h2
/-! ### what is made of a dict -/
/-- sorted(d) -/
def rSortD : List V → Hp → VK → Prop := fun xs H Q => ∃ (a : Addr) (kvs : List (Key × V)) (ks : List Str), xs = [.ref a] ∧ L2.Rd H a (.dK kvs) ∧ kvs.map (·.1) = ks.map Sum.inr ∧ ks.length < 64 ∧ ∀ ys p, ys.Perm ks → sortedS ys = true → H p = none → Q (.ref p) (upd H p (.lst (ys.map V.str)))
theorem call_sortD {X : Cx} (hc : X.calm = true) : CallR X (.builtin "sorted") rSortD := call_sortedD hc
theorem kv_keys (ps : List (Str × D)) : (kvD ps).map (·.1) = (ps.map (·.1)).map Sum.inr := by
  unfold kvD
  rw [List.map_map, List.map_map]
  rfl
theorem cl_sortD {ps : List (Str × D)} {RR : List D → Prop} (hl : ps.length < 64) (q : ∀ ys : List Str, ys.Perm (ps.map (·.1)) → sortedS ys = true → RR (ys.map .str)) : CL K rSortD [dcD ps] RR := fun H Hd vs Q ex da k => by
  cases da with
  | cons d1 d2 =>
    cases d2
    obtain ⟨ad, rfl, rd, lf⟩ := dic_is d1
    exact ⟨ad, _, ps.map (·.1), rfl, rd_up ex rd, kv_keys ps, by rw [List.length_map]; exact hl, fun ys p hp hs hn => k p _ _ hn (strs_dpa ys) (q ys hp hs)⟩
/-- sorted(a list of texts) -/
theorem cl_sortS {xs : List Str} {RR : List D → Prop} (hl : xs.length < 64) (q : ∀ ys : List Str, ys.Perm xs → sortedS ys = true → RR (ys.map .str)) : CL K (rSortedS K) [.list (xs.map .str)] RR := fun H Hd vs Q ex da k => by
  cases da with
  | cons d1 d2 =>
    cases d2
    cases d1 with
    | lst hs ha =>
      have e := dpa_strs ha
      subst e
      exact ⟨_, xs, rfl, ex_l ex hs, hl, fun ys p hp hs hn => k p _ _ hn (strs_dpa ys) (q ys hp hs)⟩
/-- own.pop(i) -/
theorem we_popO {i k : Nat} {r : V → List V → Hp → VK → Prop} (ho : δ[i]? = some (some (.own k))) (h : WE K te δ M fun y M1 => ∃ z ds j d, y = .int z ∧ M1[k]? = some (.lst ds) ∧ -(2 ^ 63) ≤ z ∧ z < 2 ^ 63 ∧ seqIndex? z ds.length = some j ∧ ds[j]? = some d ∧ R d (M1.set k (.lst (ds.eraseIdx j)))) :
    WE K (fun σ H Q => tVar i σ H fun x H1 => te σ H1 fun y H2 => rPopAt x [y] H2 Q) δ M R := fun σ H Hd ls Q a kk => by
  obtain ⟨l, hl, hv⟩ := a.own i k ho
  refine ⟨_, hv, h σ H Hd ls _ a fun w y M1 H1 Hd1 a1 s1 dw h1 => ?_⟩
  obtain ⟨z, ds, j, d, rfl, hm, b1, b2, hj, hd, hr⟩ := h1
  cases dw
  obtain ⟨n0, xs, hx, da⟩ := a1.obj k l _ hl hm
  obtain ⟨v, hv2, dv⟩ := da.got hd
  refine ⟨l, xs, z, j, v, rfl, rfl, hx, b1, b2, by rw [da.length]; exact hj, hv2, ?_⟩
  have hmat : MAt K Hd1 (upd H1 l (.lst (xs.eraseIdx j))) l (.lst (ds.eraseIdx j)) := ⟨n0, _, upd_same, dpa_erase da j⟩
  exact kk v d _ _ Hd1 (a1.write hl n0 hmat) (s1.trans (step_write hl (by rw [hx]; simp))) dv hr
end
end PW

set_option Elab.async false
set_option linter.all false
set_option maxRecDepth 100000
set_option maxHeartbeats 2000000
/-! lists of texts and of dicts' values, dicts of pairs, a dict walked by its values -/
namespace PW
open PySem L2 Evl PySem.Spec PyProof.Rows
/-- the signs of a text -/
abbrev sgV (z : Str) : List V := z.cps.toList.map fun c => V.str ⟨#[c]⟩
abbrev sgD (z : Str) : List D := z.cps.toList.map fun c => PyData.str ⟨#[c]⟩
theorem vals_by {xs : List V} {us : List Value} (hl : us.length = xs.length) (h : ∀ (j : Nat) (v : Value), us[j]? = some v → ∃ x, xs[j]? = some x ∧ L2.RelV x v) : Vals xs us := by
  induction us generalizing xs with
  | nil =>
    cases xs with
    | nil => exact .nil
    | cons _ _ => cases hl
  | cons u us ih =>
    cases xs with
    | nil => cases hl
    | cons x xs =>
      obtain ⟨y, e, r⟩ := h 0 u rfl
      cases e
      exact .cons r (ih (by simpa using hl) fun j v hv => by simpa using h (j + 1) v (by simpa using hv))
def rLstT : List V → Hp → VK → Prop := fun xs H Q => ∃ z : Str, xs = [.str z] ∧ z.length ≤ sizeLine ∧ ∀ p, H p = none → Q (.ref p) (upd H p (.lst (sgV z)))
theorem call_lstT {X : Cx} (hc : X.calm = true) : CallR X (.type "list") rLstT := by
  intro pins s σ H xs us Q I r h
  obtain ⟨z, rfl, hz, q⟩ := h
  obtain ⟨u, rfl, t, rfl⟩ := vals1 r
  refine call_list_str (I.ok.hd hc) z t (hn := hz) fun h' tk acc c hk hS hacc => ?_
  have hv : Vals (sgV z) acc.toList := vals_by (by rw [List.length_map, Array.length_toList, Array.length_toList]; exact hacc.1) fun j v e => by
    obtain ⟨c, t2, h1, h2⟩ := hacc.2 j v (by rw [← Array.getElem?_toList]; exact e)
    exact ⟨.str ⟨#[c]⟩, by rw [List.getElem?_map, Array.getElem?_toList, h1]; rfl, t2, h2⟩
  exact ⟨.ref s.heap.objs.size, _, I.laid (t' := tk) hk (Nat.le_refl _) (show ObjOk X.prog X.w _ h' _ (.lst (sgV z)) from ⟨by rw [List.length_map, Array.length_toList]; exact hz, acc.toList, c, hv, by rw [Array.toArray_toList]; exact hS⟩), rfl, q _ (I.hok.fresh (Nat.le_refl _))⟩
/-- list(d.values()) -/
def tLV (te : TE) : TE := fun σ H Q => te σ H fun x H1 => ∃ a kvs, x = .ref a ∧ H1 a = some (.dK kvs) ∧ ∀ p, H1 p = none → Q (.ref p) (upd H1 p (.lst (kvs.map (·.2))))
section
variable {X : Cx} {e : Expr} {te : TE} {p apos cpos pos : Pos}
theorem pe_listVals (hc : X.calm = true) (he : PE X e te) (hg : Gl X "list") (hm : X.mg "list" = none) (hv : bootBuiltins "list" = some (.type "list")) (hbase : attributeBase e "values" X.env (eval e X.env) = eval e X.env := by rfl) (hline : (apos.endLine == cpos.line) = true := by rfl)
    (hs : starEach [.Call (.Attribute e "values" apos) [] [] cpos] X.env = [(false, eval (.Call (.Attribute e "values" apos) [] [] cpos) X.env)] := by rfl) :
    PE X (.Call (.Name "list" p) [.Call (.Attribute e "values" apos) [] [] cpos] [] pos) (tLV te) := by
  refine ⟨fun pins s σ H Q I hq => wpAny_Call_Name_kw (ld_blt I hg hm hv (PyProof.Rows.callWith_type1 ?_ hs rfl))⟩
  rw [hs]
  refine Calls.spliced_cons (wpAny_Call_method0_late hbase hline (thn (he.run pins s σ H _ I hq) fun u s2 ⟨y, H2, I2, r2, a, kvs, ey, hp, q⟩ => ?_))
  subst ey
  obtain rfl : u = Value.ref a := r2
  obtain ⟨hz, hsys, vs, rel, dof⟩ := dk_of I2.hok hp
  obtain ⟨ep, dat⟩ := dof.dictAt
  have dat' := dat
  obtain ⟨ob, es, ho, ex, hdat, hko, hpr, hnd⟩ := dat'
  refine ⟨"dict", "dict.values", F.plainAttrs_dict, F.slot_dict_values, F.type_dict_values, ⟨ob, ho, ex.1⟩, fun b e => ?_, Calls.callWith_builtin rfl (PySem.evalArgs_none ?_)⟩
  · cases e
    exact ⟨ob, ho, ex.2.1⟩
  refine call_meetsIn F.slot_dict_values ⟨ob, ho, ex.1⟩ F.entry_dict_values (F.args_dict_values_1 _) (meets_dict_values (mixKind X.prog X.w) a hsys) ⟨⟨vs, dof⟩, ?_⟩
  have k1 : ∀ b u, s2.heap.get? b = some u → (s2.heap.push { cls := .type "dict_values", data := .fields #[.ref a] }).get? b = some u := fun b u e => Heap.get?_push_of_some _ e
  have dat1 : (s2.heap.push { cls := .type "dict_values", data := .fields #[.ref a] }).DictAt (mixKind X.prog X.w) a vs ep := dat.keep k1
  have hlen : kvs.length = vs.length := KV.length rel
  have I3 : L2.Inv X pins σ H2 { s2 with heap := s2.heap.push { cls := .type "dict_values", data := .fields #[.ref a] } } := I2.kept (t' := s2.toks) k1
  refine Calls.spliced_nil ?_
  refine PySem.W.kdl_call (PySem.W.kdl_values (knd := mixKind X.prog X.w) (kvs := vs) (ep := ep)) (I.ok.hd hc) ⟨⟨_, Heap.get?_push_size _ rfl, rfl, rfl⟩, dat1⟩ (by omega) fun h' tk acc c hk hS hacc => ?_
  have hvs : Vals (kvs.map (·.2)) acc.toList := vals_by (by rw [Array.length_toList, List.length_map, hlen]; exact hacc.1) fun j v e => by
    obtain ⟨k, hk2⟩ := hacc.2 j v (by rw [← Array.getElem?_toList]; exact e)
    obtain ⟨x, h1, h2⟩ := kv_at rel hk2
    exact ⟨x, by rw [List.getElem?_map, h1]; rfl, h2⟩
  exact ⟨.ref _, _, I3.laid (t' := tk) hk (Nat.le_refl _) (show ObjOk X.prog X.w _ h' _ (.lst (kvs.map (·.2))) from ⟨by rw [List.length_map]; exact hz, acc.toList, c, hvs, by rw [Array.toArray_toList]; exact hS⟩), rfl, q _ (I3.hok.fresh (Nat.le_refl _))⟩
end
end PW

set_option Elab.async false
set_option linter.all false
set_option maxRecDepth 100000
set_option maxHeartbeats 2000000
/-! dicts of texts: what is made of them, and a for over their values -/
namespace PW
open PySem L2 Evl PySem.Spec PyProof.Rows
theorem kit_dic : ∀ d : D, kitB (tyD d) "dict" = some (match d with | .dict _ => true | _ => false) := fun d => by cases d <;> (simp only [tyD]; decide +kernel)
section
variable {K : Fg} {Hd H : Hp}
theorem dpa_vals : ∀ {ps : List (Str × D)}, lfP ps → DpAll K H ((kvD ps).map (·.2)) (ps.map (·.2))
  | [], _ => .nil
  | p :: r, lf => by
    unfold lfP at lf
    rw [List.all_cons, Bool.and_eq_true] at lf
    exact .cons (lf_is lf.1) (dpa_vals lf.2)
theorem cl_lstZ {z : Str} {RR : List D → Prop} (hz : z.length ≤ sizeLine) (q : RR (sgD z)) : CL K rLstT [.str z] RR := fun H Hd vs Q ex da k => by
  cases da with
  | cons d1 d2 =>
    cases d2
    cases d1
    refine ⟨z, rfl, hz, fun p hp => k p _ _ hp ?_ q⟩
    show DpAll K Hd (z.cps.toList.map fun c => V.str ⟨#[c]⟩) (z.cps.toList.map fun c => PyData.str ⟨#[c]⟩)
    induction z.cps.toList with
    | nil => exact .nil
    | cons c r ih => exact .cons (.str _) ih
end
/-- list(d.items()) of a dict that may be locked -/
def tLI (te : TE) : TE := fun σ H Q => te σ H fun x H1 => ∃ (d : Addr) (kvs : List (Key × V)), x = .ref d ∧ L2.Rd H1 d (.dK kvs) ∧
  ∀ (H' : Hp) (p : Addr) (ts : List Addr), (∀ b o, H1 b = some o → H' b = some o) → H1 p = none → (∀ t ∈ ts, H1 t = none) → p ∉ ts → H' p = some (.lst (ts.map V.ref)) → Paired (fun (t : Addr) (q : Key × V) => H' t = some (.tup [kV q.1, q.2])) ts kvs → Q (.ref p) H'
section
variable {X : Cx} {e : Expr} {te : TE} {p apos cpos pos : Pos}
theorem pe_listIt (hc : X.calm = true) (he : PE X e te) (hg : Gl X "list") (hm : X.mg "list" = none) (hv : bootBuiltins "list" = some (.type "list")) (hbase : attributeBase e "items" X.env (eval e X.env) = eval e X.env := by rfl) (hline : (apos.endLine == cpos.line) = true := by rfl)
    (hs : starEach [.Call (.Attribute e "items" apos) [] [] cpos] X.env = [(false, eval (.Call (.Attribute e "items" apos) [] [] cpos) X.env)] := by rfl) :
    PE X (.Call (.Name "list" p) [.Call (.Attribute e "items" apos) [] [] cpos] [] pos) (tLI te) := by
  refine ⟨fun pins s σ H Q I hq => wpAny_Call_Name_kw (ld_blt I hg hm hv (PyProof.Rows.callWith_type1 ?_ hs rfl))⟩
  rw [hs]
  refine Calls.spliced_cons (wpAny_Call_method0_late hbase hline (thn (he.run pins s σ H _ I hq) fun u s2 ⟨y, H2, I2, r2, a, kvs, ey, hp, q⟩ => ?_))
  subst ey
  obtain rfl : u = Value.ref a := r2
  obtain ⟨hz, hsys, vs, rel, dof⟩ := dk_rd I2.hok hp
  obtain ⟨ep, dat⟩ := dof.dictAt
  have dat' := dat
  obtain ⟨ob, es, ho, ex, hdat, hko, hpr, hnd⟩ := dat'
  refine ⟨"dict", "dict.items", F.plainAttrs_dict, F.slot_dict_items, F.type_dict_items, ⟨ob, ho, ex.1⟩, fun b e => ?_, Calls.callWith_builtin rfl (PySem.evalArgs_none ?_)⟩
  · cases e
    exact ⟨ob, ho, ex.2.1⟩
  refine call_meetsIn F.slot_dict_items ⟨ob, ho, ex.1⟩ F.entry_dict_items (F.args_dict_items_1 _) (meets_dict_items (mixKind X.prog X.w) a hsys) ⟨⟨vs, dof⟩, ?_⟩
  have k1 : ∀ b u, s2.heap.get? b = some u → (s2.heap.push { cls := .type "dict_items", data := .fields #[.ref a] }).get? b = some u := fun b u e => Heap.get?_push_of_some _ e
  have hlen : kvs.length = vs.length := KV.length rel
  have I3 : L2.Inv X pins σ H2 { s2 with heap := s2.heap.push { cls := .type "dict_items", data := .fields #[.ref a] } } := I2.kept (t' := s2.toks) k1
  refine Calls.spliced_nil ?_
  refine PySem.W.kdx_call (knd := mixKind X.prog X.w) (kvs := vs) (ep := ep) (I.ok.hd hc) ⟨_, Heap.get?_push_size _ rfl, rfl, rfl⟩ (dat.push _) (by omega) fun h' tk acc c as hk hS hl hG hacc => ?_
  obtain ⟨H', j1, j2, j3, j4, j5, j6, J⟩ := LiI.items_laid (tk := tk) I3 hz rel hk hS hl hG hacc
  exact ⟨.ref _, H', J, rfl, q H' _ as j1 j2 j3 j4 j5 j6⟩
/-- the truth of a value, also of a dict that is locked -/
def tTruR (K : Fg) (te : TE) : TT := fun σ H Q => te σ H fun x H' => ∃ k, (TruV K x H' k ∨ ∃ a kvs, x = .ref a ∧ L2.Rd H' a (.dK kvs) ∧ k = !kvs.isEmpty) ∧ Q k H'
theorem pt_truR (ha : PE X e te) (he : ∀ whole, isTrue e X.env whole = (do let v ← whole; standAt e.pos; holding [v] (truthy v))) : PT X e (tTruR X.K te) := by
  refine ⟨fun pins s σ H Q I h => ?_⟩
  refine isTrue_plain (thn (ha.run pins s σ H _ I h) fun v s1 ⟨x, H1, I1, r1, q1⟩ => ?_) (he _)
  obtain ⟨k, h | ⟨a, kvs, rfl, rd, rfl⟩, q⟩ := q1
  · exact tru_ok pins s1 σ H1 x v Q I1 r1 ⟨k, h, q⟩
  · obtain rfl : v = Value.ref a := r1
    exact d_truth I1 rd fun s' I' => ⟨H1, I', q⟩
end
theorem inK {X : Cx} {K : Fg} (h : X.K = K) : OpR X (compareOp .In) (rIn K false) := by
  subst h
  exact op_in_seq
/-- a statement that walks a dict, locked for the time if it is not for good -/
def tLkS (t : TS) : TS := fun D σ H => t D σ H ∨ tLock t D σ H
theorem ps_lkS {X : Cx} {st : Stmt} {t : TS} (h : PS X st t) : PS X st (tLkS t) := ⟨fun pins s σ H D I hw => hw.elim (fun hw => h.run pins s σ H D I hw) (fun hw => (ps_lock h).run pins s σ H D I hw)⟩
section
variable {K : Fg} {n : Ent → Prop} {δ : Dl} {M M' : Ms} {σ : L2.St} {H Hd : Hp} {ls : List Addr} {P : Po} {te ti ta tv ty tl : TE} {tr : TA} {R : D → Ms → Prop} {RL : List D → Ms → Prop} {RB : Bool → Ms → Prop} {d : D} {g : TG} {tb : TS}
/-- own.pop(i) -/
theorem we_popM {i k : Nat} {ds0 : List D} (ho : δ[i]? = some (some (.own k))) (hm0 : M[k]? = some (.lst ds0)) (h : WE K te δ M fun y M1 => ∃ z ds j d, y = .int z ∧ M1[k]? = some (.lst ds) ∧ (-(2 ^ 63) ≤ z ∧ z < 2 ^ 63) ∧ seqIndex? z ds.length = some j ∧ ds[j]? = some d ∧ R d (M1.set k (.lst (ds.eraseIdx j)))) :
    WE K (tBM K "list" rPopAt (tVar i) (tCons te tNil)) δ M R := fun σ H Hd ls Q a kk => by
  obtain ⟨l, hl, hv⟩ := a.own i k ho
  refine ⟨_, hv, ?_, ?_⟩
  · obtain ⟨_, xs, hx, _⟩ := a.obj k l _ hl hm0
    exact .inl ⟨rfl, xs, SqL.of hx⟩
  refine h σ H Hd ls _ a fun w y M1 H1 Hd1 a1 s1 dw h1 => ?_
  obtain ⟨z, ds, j, d, rfl, hm, ⟨b1, b2⟩, hj, hd, hr⟩ := h1
  cases dw
  obtain ⟨n0, xs, hx, da⟩ := a1.obj k l _ hl hm
  obtain ⟨v, hv2, dv⟩ := da.got hd
  refine ⟨l, xs, z, j, v, rfl, rfl, hx, b1, b2, by rw [da.length]; exact hj, hv2, ?_⟩
  have hmat : MAt K Hd1 (upd H1 l (.lst (xs.eraseIdx j))) l (.lst (ds.eraseIdx j)) := ⟨n0, _, upd_same, dpa_erase da j⟩
  exact kk v d _ _ Hd1 (a1.write hl n0 hmat) (s1.trans (step_write hl (by rw [hx]; simp))) dv hr
/-- list(own.values()) -/
theorem wl_lv {i k : Nat} {ps : List (Str × D)} (ho : δ[i]? = some (some (.own k))) (hm : M[k]? = some (TD ps)) (lf : lfP ps) (q : RL (ps.map (·.2)) M) : WL K (tLV (tVar i)) δ M RL := fun σ H Hd ls Q a kk => by
  obtain ⟨l, hl, hv⟩ := a.own i k ho
  obtain ⟨n0, hd⟩ := td_at (a.obj k l _ hl hm) lf
  refine ⟨_, hv, l, _, rfl, hd, fun p hp => ?_⟩
  exact kk p _ _ M _ Hd (sta_new a hp) (step_new hp).all hp (fresh_hd a.sub hp) (not_ls a hp) upd_same (dpa_vals lf) q
/-- the truth of data, also of a dict -/
theorem wt_truD {i : Nat} {ps : List (Str × D)} (ho : δ[i]? = some (some (.dat (dcD ps)))) (q : RB (!ps.isEmpty) M) : WT K (tTruR K (tVar i)) δ M RB := fun σ H Hd ls Q a kk => by
  obtain ⟨v, hv, dv⟩ := a.dat i _ ho
  obtain ⟨ad, rfl, rd, lf⟩ := dic_is dv
  refine ⟨_, hv, _, .inr ⟨ad, _, rfl, rd_up a.sub rd, rfl⟩, ?_⟩
  have e : (kvD ps).isEmpty = ps.isEmpty := by cases ps <;> rfl
  rw [e]
  exact kk _ M H Hd a Step.refl q
/-- the pairs of a dict, as tuples -/
theorem paired_items {H' : Hp} {ts : List Addr} {Hd2 : Hp} (e2 : ∀ t ∈ ts, Hd2 t = H' t) : ∀ {ps : List (Str × D)} {us : List Addr}, (∀ t ∈ us, t ∈ ts) → lfP ps → Paired (fun (t : Addr) (q : Key × V) => H' t = some (.tup [kV q.1, q.2])) us (kvD ps) → DpAll K Hd2 (us.map V.ref) (ps.map fun p => .tuple [.str p.1, p.2])
  | [], us, hm, lf, pr => by
    cases pr
    exact .nil
  | p :: r, us, hm, lf, pr => by
    unfold lfP at lf
    rw [List.all_cons, Bool.and_eq_true] at lf
    cases pr with
    | cons p1 p2 =>
      rename_i t us'
      have ht := e2 t (hm t (by simp))
      exact .cons (.tup (SqT.of (ht.trans p1)) (.cons (.str _) (.cons (lf_is lf.1) .nil))) (paired_items e2 (fun t ht => hm t (by simp [ht])) lf.2 p2)
/-- list(d.items()) -/
theorem wl_li {i : Nat} {ps : List (Str × D)} (ho : δ[i]? = some (some (.dat (dcD ps)))) (q : RL (ps.map fun p => .tuple [.str p.1, p.2]) M) : WL K (tLI (tVar i)) δ M RL := fun σ H Hd ls Q a kk => by
  obtain ⟨v, hv, dv⟩ := a.dat i _ ho
  obtain ⟨ad, rfl, rd, lf⟩ := dic_is dv
  refine ⟨_, hv, ad, _, rfl, rd_up a.sub rd, fun H' p ts k1 k2 k3 k4 k5 k6 => ?_⟩
  have hdt : ∀ t ∈ ts, Hd t = none := fun t ht => fresh_hd a.sub (k3 t ht)
  let Hd2 : Hp := fun b => if b ∈ ts then H' b else Hd b
  have e2 : ∀ t ∈ ts, Hd2 t = H' t := fun t ht => if_pos ht
  have ex2 : Ex Hd Hd2 := fun b o e => by
    show (if b ∈ ts then H' b else Hd b) = some o
    rw [if_neg (fun z => by rw [hdt b z] at e; cases e)]
    exact e
  have st : Step H Hd [] H' Hd2 := ⟨ex2, fun b o e _ => k1 b o e, fun b h1 h2 => by
    show (if b ∈ ts then H' b else Hd b) = none
    rw [if_neg (fun z => h1 (k3 b z))]
    exact h2, fun b h1 => by
    cases e : H b with
    | none => exact absurd e h1
    | some o => rw [k1 b o e]; simp⟩
  have sub2 : Ex Hd2 H' := fun b o e => by
    by_cases hb : b ∈ ts
    · rw [← e2 b hb]; exact e
    · have e' : Hd b = some o := by
        have : (if b ∈ ts then H' b else Hd b) = some o := e
        rw [if_neg hb] at this
        exact this
      exact k1 b o (a.sub b o e')
  refine kk p (ts.map V.ref) _ M H' Hd2 (a.up st sub2) st.all k2 ?_ (not_ls a k2) k5 (paired_items e2 (fun _ h => h) lf k6) q
  show (if p ∈ ts then H' p else Hd p) = none
  rw [if_neg k4]
  exact fresh_hd a.sub k2
/-- what dict(..) gives, of pairs whose keys differ -/
theorem merge_kv : ∀ (qs ps : List (Str × D)), (∀ p ∈ ps, ∀ q ∈ qs, p.1 ≠ q.1) → (qs.map (·.1)).Nodup → mergeK (kvD ps) (kvD qs) = kvD (ps ++ qs)
  | [], ps, _, _ => by rw [List.append_nil]; rfl
  | q :: r, ps, h, nd => by
    show mergeK (putK (kvD ps) (.inr q.1) (lfV q.2)) (kvD r) = _
    rw [put_kv]
    have e : putS ps q.1 q.2 = ps ++ [q] := by
      unfold putS
      rw [if_neg]
      intro z
      obtain ⟨p, hp, e⟩ := List.any_eq_true.mp z
      exact h p hp q (by simp) (by simpa using e)
    rw [e]
    rw [List.map_cons, List.nodup_cons] at nd
    rw [merge_kv r (ps ++ [q]) (fun p hp q' hq => ?_) nd.2, List.append_assoc]
    · rfl
    · rcases List.mem_append.mp hp with hp | hp
      · exact h p hp q' (by simp [hq])
      · rw [List.mem_singleton.mp hp]
        exact fun z => nd.1 (by rw [z]; exact List.mem_map_of_mem hq)
def rDictP (K : Fg) : List V → Hp → VK → Prop := fun xs H Q => ∃ (a : Addr) (ps : List Addr) (kvs : List (Key × V)), xs = [.ref a] ∧ SqL K H a (ps.map V.ref) ∧ Paired (fun p kv => SqT K H p [kV kv.1, kv.2]) ps kvs ∧
    ∀ p, H p = none → Q (.ref p) (upd H p (.dK (mergeK [] kvs)))
theorem call_dictQ {X : Cx} (hc : X.calm = true) : CallR X (.type "dict") (rDictP X.K) := call_dictP hc
theorem pairs_refs {H : Hp} (e : Ex Hd H) : ∀ {ps : List (Str × D)} {vs : List V}, lfP ps → DpAll K Hd vs (ps.map fun p => .tuple [.str p.1, p.2]) → ∃ ts : List Addr, vs = ts.map V.ref ∧ Paired (fun (t : Addr) (kv : Key × V) => SqT K H t [kV kv.1, kv.2]) ts (kvD ps)
  | [], _, _, h => by
    cases h
    exact ⟨[], rfl, .nil⟩
  | p :: r, _, lf, h => by
    unfold lfP at lf
    rw [List.all_cons, Bool.and_eq_true] at lf
    cases h with
    | cons h1 h2 =>
      obtain ⟨ts, rfl, hp⟩ := pairs_refs e lf.2 h2
      cases h1 with
      | tup hs ha =>
        rename_i t xs
        cases ha with
        | cons a1 a2 =>
          cases a2 with
          | cons a2 a3 =>
            cases a3
            cases a1
            obtain rfl := lf_same a2 lf.1
            exact ⟨t :: ts, rfl, .cons (ex_t e hs) hp⟩
/-- dict(a list of pairs) as data -/
theorem cd_dictP {ps : List (Str × D)} {RR : D → Prop} (lf : lfP ps) (nd : (ps.map (·.1)).Nodup) (q : RR (dcD ps)) : CD K (rDictP K) [.list (ps.map fun p => .tuple [.str p.1, p.2])] RR := fun H Hd vs Q ex da k => by
  cases da with
  | cons d1 d2 =>
    cases d2
    cases d1 with
    | lst hs ha =>
      obtain ⟨ts, rfl, hp⟩ := pairs_refs ex lf ha
      refine ⟨_, ts, _, rfl, ex_l ex hs, hp, fun p hn => ?_⟩
      have em : mergeK [] (kvD ps) = kvD ps := merge_kv ps [] (fun _ h => nomatch h) nd
      rw [em]
      have hdn := fresh_hd ex hn
      refine k (.ref p) _ _ (upd Hd p (.dK (kvD ps))) ⟨Ex.new hdn, fun a o h _ => ?_, fun a h1 h2 => ?_, fun a h z => ?_⟩ (fun b o e => ?_) (.dic rfl (.inl upd_same) lf) q
      · rw [upd_ne (ne_of_none h hn)]; exact h
      · rw [upd_ne (fun z => h1 (by rw [z]; exact hn))]; exact h2
      · by_cases e : a = p
        · subst e; rw [upd_same] at z; cases z
        · rw [upd_ne e] at z; exact h z
      · by_cases z : b = p
        · subst z; rw [upd_same] at e ⊢; exact e
        · rw [upd_ne z] at e ⊢; exact ex b o e
theorem Run.join {e : Ent} (r : Run K e δ M σ H Hd ls) {δ' : Dl} {σ' : L2.St} {H' Hd' : Hp} {ls' : List Addr} (q : Run K ⟨H, Hd, ls⟩ δ' M' σ' H' Hd' ls') : Run K e δ' M' σ' H' Hd' ls' := by
  refine ⟨q.sta, ⟨r.step.ext.trans q.step.ext, fun x o h n => ?_, fun x h n => q.step.new x (r.step.there x h) (r.step.new x h n), fun x h => q.step.there x (r.step.there x h)⟩, r.pre.trans q.pre, fun k l h hk => ?_⟩
  · refine q.step.old x o (r.step.old x o h n) fun hm => ?_
    obtain ⟨k, hk, ek⟩ := List.getElem_of_mem hm
    by_cases hlt : k < e.ls.length
    · obtain ⟨tl, et⟩ := r.pre
      refine n ?_
      have : ls[k]? = e.ls[k]? := by rw [← et, List.getElem?_append_left hlt]
      rw [List.getElem?_eq_getElem hk, ek, List.getElem?_eq_getElem hlt] at this
      rw [Option.some.inj this]
      exact List.getElem_mem hlt
    · have := r.loc k x (by rw [List.getElem?_eq_getElem hk, ek]) (by omega)
      rw [h] at this; cases this
  · by_cases hlt : k < ls.length
    · obtain ⟨tl, et⟩ := q.pre
      refine r.loc k l ?_ hk
      rw [← h, ← et]
      exact (List.getElem?_append_left hlt).symm
    · have := q.loc k l h (Nat.le_of_not_lt hlt)
      cases e0 : e.H l with
      | none => rfl
      | some o => exact absurd this (r.step.there l (by rw [e0]; simp))
/-- a run on a locked dict, when it is let go -/
theorem Run.unlock {a : Addr} {o : Obj} {kvs : List (Key × V)} (h1 : Hd a = some (.dK kvs)) (hH : H a = some (.dK kvs)) {δ' : Dl} {σ' : L2.St} {H' Hd' : Hp} {ls' : List Addr} (q : Run K ⟨upd H a (.frz o (.dK kvs)), upd Hd a (.frz o (.dK kvs)), ls⟩ δ' M' σ' H' Hd' ls') :
    H' a = some (.frz o (.dK kvs)) ∧ RdE Hd' (upd Hd' a (.dK kvs)) ∧ Run K ⟨H, Hd, ls⟩ δ' M' σ' (upd H' a (.dK kvs)) (upd Hd' a (.dK kvs)) ls' := by
  have f1 := q.step.ext _ _ (upd_same (H := Hd) (a := a))
  have ne' : Hd' a ≠ none := by rw [f1]; simp
  have rd := rd_unlock f1
  refine ⟨q.sta.sub _ _ f1, rd, q.sta.swap ne' rd, q.step.swap h1 hH, q.pre, fun k l h hk => ?_⟩
  have := q.loc k l h hk
  have ne : l ≠ a := fun z => by
    rw [z] at this
    have e : upd H a (HO.frz o (.dK kvs)) a = none := this
    rw [upd_same] at e; cases e
  have e : upd H a (HO.frz o (.dK kvs)) l = none := this
  rw [upd_ne ne] at e
  exact e
/-- for x in d.values() -/
theorem wb_forV {i : Nat} {ps : List (Str × D)} (ho : δ[i]? = some (some (.dat (dcD ps)))) (h : turns K (Own M.length) g tb (ps.map (·.2)) δ M P) : WB K n (tLkS (tFor (iVals (tVar i)) g tb)) δ M P := fun e σ H Hd ls W hn r k1 k2 k3 k4 => by
  obtain ⟨v, hv, dv⟩ := r.sta.dat i _ ho
  obtain ⟨a, rfl, rd, lf⟩ := dic_is dv
  have core : ∀ (H0 Hd0 : Hp) (o : Obj) (W0 : Ends), Hd0 a = some (.frz o (.dK (kvD ps))) → Sta K δ M σ H0 Hd0 ls →
      (∀ δ' M' σ' H' Hd' ls', Run K ⟨H0, Hd0, ls⟩ δ' M' σ' H' Hd' ls' → P.nx δ' M' → W0.nx σ' H') →
      (∀ v d δ' M' σ' H' Hd' ls', Run K ⟨H0, Hd0, ls⟩ δ' M' σ' H' Hd' ls' → Dp K Hd' v d → P.rt d M' → W0.rt v H') → tFor (iVals (tVar i)) g tb W0 σ H0 := by
    intro H0 Hd0 o W0 hd st c1 c2
    refine ⟨_, hv, a, o, _, rfl, st.sub _ _ hd, ?_⟩
    have r0 : Run K ⟨H0, Hd0, ls⟩ δ M σ H0 Hd0 ls := ⟨st, Step.refl, List.prefix_refl _, fun k l h hk => by
      rw [List.getElem?_eq_none hk] at h; cases h⟩
    refine for_turns (D' := D) (show Own M.length ⟨H0, Hd0, ls⟩ from st.mlen) r0 (fun j H' hj x => ?_) (fun H' x => ?_) (fun j H' y H2 hj ex z => ?_) h (fun δ' M' σ' H' Hd' ls' r' _ _ q => c1 δ' M' σ' H' Hd' ls' r' q) (fun v d δ' M' σ' H' Hd' ls' r' _ _ dv q => c2 v d δ' M' σ' H' Hd' ls' r' dv q)
    · exact ⟨x _ _ hd, by simpa using hj⟩
    · exact ⟨x _ _ hd, by simp⟩
    · obtain ⟨e1, ky, hk⟩ := z
      refine ⟨e1, ?_⟩
      have da := dpa_vals (K := K) (H := Hd0) lf
      have hk2 : ((kvD ps).map (·.2))[j]? = some y := by rw [List.getElem?_map, hk]; rfl
      exact da.get hk2
  rcases rd with h1 | ⟨o, h1⟩
  · refine .inr ⟨a, _, r.sta.sub _ _ h1, trivial, fun od => ?_⟩
    have hH := r.sta.sub _ _ h1
    have ne : Hd a ≠ none := by rw [h1]; simp
    refine core _ _ od _ upd_same (r.sta.swap ne (rd_lock h1)) (fun δ' M' σ' H' Hd' ls' q w => ?_) (fun v d δ' M' σ' H' Hd' ls' q dv w => ?_)
    · obtain ⟨f1, f2, q2⟩ := q.unlock h1 hH
      exact ⟨f1, k1 _ _ _ _ _ _ (r.join q2) q2.step.ext q2.pre w⟩
    · obtain ⟨f1, f2, q2⟩ := q.unlock h1 hH
      exact ⟨f1, k2 _ _ _ _ _ _ _ _ (r.join q2) q2.step.ext q2.pre (dp_rd f2 _ _ dv) w⟩
  · refine .inl (core _ _ o _ h1 r.sta (fun δ' M' σ' H' Hd' ls' q w => k1 _ _ _ _ _ _ (r.join q) q.step.ext q.pre w) (fun v d δ' M' σ' H' Hd' ls' q dv w => k2 _ _ _ _ _ _ _ _ (r.join q) q.step.ext q.pre dv w))
end
/-- x not in a list of flat items -/
theorem od_notInLf {K : Fg} {x : D} {ds : List D} {RR : D → Prop} (f : flatD x = true) (fs : ds.all flatD = true) (q : RR (.bool (!ds.any fun z => PyData.eqv z x))) : OD K (rIn K true) x (.list ds) RR := fun H Hd v w Q ex dx dy k => by
  cases dy with
  | lst hs ha =>
    refine ⟨_, _, rfl, .inl (ex_l ex hs), flat_of dx f, flats_of ha fs, ?_⟩
    have e := inV_of dx f ha fs
    simp only [if_true, e]
    exact k _ _ H Hd Step.refl ex (.bl _) q
/-- text * int, wider -/
def rRepU : R2 := fun x y H Q => ∃ (a : Str) (n : Int), x = .str a ∧ y = .int n ∧ 2 ≤ n ∧ n ≤ 5000 ∧ 1 ≤ a.length ∧ a.length ≤ 8 ∧ Q (.str (repT a n)) H
theorem op_repU {X : Cx} : OpR X (binaryOp .Mult) rRepU := by
  intro pins s σ H x y v u Q I rx ry h
  obtain ⟨a, n, rfl, rfl, h2, h5, ha, ha8, q⟩ := h
  obtain ⟨t, rfl⟩ := rx
  obtain ⟨tk, rfl⟩ := ry
  have e1 : (n == 1) = false := by simp; omega
  have e2 : (a.length == 0) = false := by simp; omega
  have m1 : (a.length : Int) * n ≤ 8 * n := Int.mul_le_mul_of_nonneg_right (by omega) (by omega)
  have m2 : a.length * n.toNat ≤ 8 * 5000 := Nat.mul_le_mul ha8 (by omega)
  refine P.mul_str (by rw [decide_eq_false (show ¬ n < -(2 ^ 63 : Int) by omega), decide_eq_false (show ¬ n ≥ 2 ^ 63 by omega)]; rfl) (fun _ _ => ?_) (fun _ _ => ?_) ?_
  · have : (a.length : Int) ≤ (2 ^ 63 - 1) / n := by
      rw [Int.le_ediv_iff_mul_le (by omega)]
      omega
    omega
  · unfold Builtin.Str.tooLong
    rw [decide_eq_false]
    rw [sizeLine_eq]
    omega
  · rw [if_neg (by omega), e1, e2]
    have hz : (repT a n).length ≤ sizeLine := by
      rw [repT_len, Nat.mul_comm, sizeLine_eq]; omega
    exact ⟨hz, .str _, H, I.tok _, ⟨_, rfl⟩, q⟩
theorem od_repU {K : Fg} {a : Str} {n : Int} {R : D → Prop} (h2 : 2 ≤ n) (h3 : n ≤ 5000) (ha : 1 ≤ a.length) (ha8 : a.length ≤ 8) (q : R (.str (repT a n))) : OD K rRepU (.str a) (.int n) R := fun H Hd v w Q ex dx dy k => by
  cases dx
  cases dy
  exact ⟨a, n, rfl, rfl, h2, h3, ha, ha8, k _ _ H Hd Step.refl ex (.str _) q⟩
theorem rep_mem {a : Array Nat} {c : Nat} : ∀ (n : Nat) (acc : Array Nat), c ∈ ((List.replicate n a).foldl (· ++ ·) acc).toList → c ∈ acc.toList ∨ c ∈ a.toList
  | 0, acc, h => .inl h
  | n + 1, acc, h => by
    rw [List.replicate_succ, List.foldl_cons] at h
    rcases rep_mem n _ h with h | h
    · rw [Array.toList_append] at h
      exact List.mem_append.mp h
    · exact .inr h
theorem repT_mem {a : Str} {n : Int} {c : Nat} (h : c ∈ (repT a n).cps.toList) : c ∈ a.cps.toList := (rep_mem n.toNat #[] h).elim (fun h => nomatch h) id
/-- a comprehension whose items and lists go by turns -/
theorem comp_inv {K : Fg} {δ : Dl} {g : TG} {te : TE} {vs : List Nat} {RL : List D → Ms → Prop} (I : Nat → Ms → List D → Prop) : ∀ (ds : List D) (j : Nat) (M : Ms) (acc : List D), I j M acc →
    (∀ (i : Nat) d M acc, ds[i]? = some d → I (j + i) M acc → WC K g vs d δ M fun δ1 => WE K te δ1 M fun y M2 => acc.length < sizeLine ∧ I (j + i + 1) M2 (acc ++ [y])) →
    (∀ M acc, I (j + ds.length) M acc → RL acc M) → comp K g tYes te vs ds δ M acc RL
  | [], j, M, acc, h, _, hd => comp_nil (hd M acc h)
  | d :: r, j, M, acc, h, hs, hd => by
    refine comp_yes ?_
    have h1 := hs 0 d M acc rfl h
    intro σ H Hd ls v Q a dv k
    refine h1 σ H Hd ls v Q a dv fun δ' σ' a' l' j' q => k δ' σ' a' l' j' (we_mono q fun y M2 q => ⟨q.1, ?_⟩)
    refine comp_inv I r (j + 1) M2 _ q.2 (fun i d M acc hi hI => ?_) fun M acc hI => hd M acc (by rw [List.length_cons, show j + (r.length + 1) = j + 1 + r.length by omega]; exact hI)
    have := hs (i + 1) d M acc hi (by rw [show j + (i + 1) = j + 1 + i by omega]; exact hI)
    rw [show j + (i + 1) + 1 = j + 1 + i + 1 by omega] at this
    exact this
end PW

set_option Elab.async false
set_option linter.all false
set_option maxRecDepth 100000
set_option maxHeartbeats 2000000
/-! dicts of texts: list(d), len(d), comprehensions over the items and over two keys, a for over the keys -/
namespace PW
open PySem L2 Evl PySem.Spec PyProof.Rows
/-- list(d) -/
def rLstK : List V → Hp → VK → Prop := fun xs H Q => ∃ (a : Addr) (kvs : List (Key × V)), xs = [.ref a] ∧ L2.Rd H a (.dK kvs) ∧ ∀ p, H p = none → Q (.ref p) (upd H p (.lst (kvs.map fun q => kV q.1)))
theorem call_lstK {X : Cx} (hc : X.calm = true) : CallR X (.type "list") rLstK := by
  intro pins s σ H xs us Q I r h
  obtain ⟨a, kvs, rfl, rd, q⟩ := h
  obtain ⟨u, rfl, r1⟩ := vals1 r
  obtain rfl : u = Value.ref a := r1
  obtain ⟨hz, hsys, vs, rel, dof⟩ := dk_rd I.hok rd
  obtain ⟨ep, dat⟩ := dof.dictAt
  have hlen : kvs.length = vs.length := KV.length rel
  refine PySem.W.kdl_call (PySem.W.kdl_dict (knd := mixKind X.prog X.w) (kvs := vs) (ep := ep) hsys) (I.ok.hd hc) dat (by omega) fun h' tk acc c hk hS hacc => ?_
  have hvs : Vals (kvs.map fun q => kV q.1) acc.toList := vals_by (by rw [Array.length_toList, List.length_map, hlen]; exact hacc.1) fun j v e => by
    obtain ⟨k, x, h1, h2⟩ := hacc.2 j v (by rw [← Array.getElem?_toList]; exact e)
    have e2 := congrArg (fun l => l[j]?) (KV.keys rel)
    simp only [List.getElem?_map, h1, Option.map_some] at e2
    obtain ⟨p, hp, ep2⟩ := Option.map_eq_some_iff.mp e2
    refine ⟨kV p.1, by rw [List.getElem?_map, hp]; rfl, ?_⟩
    rw [ep2]
    exact relV_key h2
  exact ⟨.ref s.heap.objs.size, _, I.laid (t' := tk) hk (Nat.le_refl _) (show ObjOk X.prog X.w _ h' _ (.lst (kvs.map fun q => kV q.1)) from ⟨by rw [List.length_map]; exact hz, acc.toList, c, hvs, by rw [Array.toArray_toList]; exact hS⟩), rfl, q _ (I.hok.fresh (Nat.le_refl _))⟩
/-- len(d) -/
def rLenR : List V → Hp → VK → Prop := fun xs H Q => ∃ (a : Addr) (kvs : List (Key × V)), xs = [.ref a] ∧ L2.Rd H a (.dK kvs) ∧ Q (.int kvs.length) H
theorem call_lenR {X : Cx} : CallR X (.builtin "len") rLenR := by
  intro pins s σ H xs us Q I r h
  obtain ⟨a, kvs, rfl, rd, q⟩ := h
  obtain ⟨u, rfl, r1⟩ := vals1 r
  obtain rfl : u = Value.ref a := r1
  exact d_len I rd fun t s' I' => ⟨.int kvs.length, H, I', ⟨t, rfl⟩, q⟩
section
variable {K : Fg} {n : Ent → Prop} {δ : Dl} {M M' : Ms} {P : Po} {g g1 : TG} {tt tt1 : TT} {te tl : TE} {tb : TS} {vs vs1 : List Nat} {RL : List D → Ms → Prop}
theorem cl_lstK {ps : List (Str × D)} {RR : List D → Prop} (q : RR (ps.map fun p => .str p.1)) : CL K rLstK [dcD ps] RR := fun H Hd vs Q ex da k => by
  cases da with
  | cons d1 d2 =>
    cases d2
    obtain ⟨ad, rfl, rd, lf⟩ := dic_is d1
    refine ⟨ad, _, rfl, rd_up ex rd, fun p hp => k p _ _ hp ?_ q⟩
    clear q d1 rd lf k
    unfold kvD
    rw [List.map_map]
    induction ps with
    | nil => exact .nil
    | cons p r ih => exact .cons (.str p.1) ih
theorem cd_lenR {ps : List (Str × D)} {RR : D → Prop} (q : RR (.int ps.length)) : CD K rLenR [dcD ps] RR := fun H Hd vs Q ex da k => by
  cases da with
  | cons d1 d2 =>
    cases d2
    obtain ⟨ad, rfl, rd, lf⟩ := dic_is d1
    refine ⟨ad, _, rfl, rd_up ex rd, ?_⟩
    rw [List.length_map]
    exact k _ _ H Hd Step.refl ex (.int _) q
/-- the turns of a comprehension whose list stands already; what the iterator yields may be new -/
theorem comp_at {σ : L2.St} {H Hd H0 Hd0 : Hp} {ls : List Addr} {J : It} {ds : List D} {Dn : Addr} {xs0 : List V} {acc0 : List D} {Z : Hp → Prop} (a : Sta K δ M σ H Hd ls)
    (s : Step H0 Hd0 ls H Hd) (hDn : H0 Dn = none) (n0 : Hd Dn = none) (nDn : Dn ∉ ls) (h0 : H Dn = some (.lst xs0)) (d0 : DpAll K Hd xs0 acc0)
    (hgo : ∀ (i : Nat) H', i < ds.length → Ex Hd H' → J.go i H') (hstop : ∀ H', Ex Hd H' → J.stop ds.length H')
    (hyld : ∀ (i : Nat) H' Hd' x H2, i < ds.length → Ex Hd Hd' → Ex Hd' H' → J.yld i H' x H2 → ∃ Hd2 d, Step H' Hd' [] H2 Hd2 ∧ Ex Hd2 H2 ∧ ds[i]? = some d ∧ Dp K Hd2 x d)
    (h : comp K g tt te vs ds (wipeD δ vs) M acc0 RL)
    (k : ∀ xs es M' H' Hd', Sta K δ M' σ H' Hd' ls → Step H0 Hd0 ls H' Hd' → Ex Hd Hd' → Hd' Dn = none → H' Dn = some (.lst xs) → DpAll K Hd' xs es → RL es M' → Z H') :
    ∃ W : Nat → Nat → Hp → Prop, (∃ m, W 0 m H) ∧ ∀ i m H, W i m H →
      (J.stop i H ∧ Z H) ∨ (J.go i H ∧ ∃ Nx : Hp → Prop, (∀ H', Nx H' → ∃ m', m' < m ∧ W (i + 1) m' H') ∧ ∀ x H', J.yld i H x H' → g x (wipe σ vs) H' fun σ2 H2 => wipe σ2 vs = wipe σ vs ∧ tt σ2 H2 fun b H3 =>
        if b = true then te σ2 H3 fun y H4 => ∃ acc, H4 Dn = some (.lst acc) ∧ acc.length < sizeLine ∧ Nx (upd H4 Dn (.lst (acc ++ [y]))) else Nx H3) := by
  let In : Nat → Hp → Prop := fun i H' => ∃ M' Hd' xs acc, Sta K δ M' σ H' Hd' ls ∧ Step H0 Hd0 ls H' Hd' ∧ Ex Hd Hd' ∧ Hd' Dn = none ∧ H' Dn = some (.lst xs) ∧ DpAll K Hd' xs acc ∧ comp K g tt te vs (ds.drop i) (wipeD δ vs) M' acc RL
  refine ⟨fun i m H' => m = ds.length - i ∧ i ≤ ds.length ∧ In i H', ⟨ds.length, by simp, Nat.zero_le _, M, Hd, xs0, acc0, a, s, Ex.refl _, n0, h0, d0, by simpa using h⟩, ?_⟩
  rintro i m H1 ⟨rfl, hi, M1, Hd1, xs, acc, a1, s1, x1, n1, h1, d1, c1⟩
  have ex1 : Ex Hd H1 := x1.trans a1.sub
  by_cases hlt : i < ds.length
  · refine .inr ⟨hgo i H1 hlt ex1, In (i + 1), fun H' q => ⟨ds.length - (i + 1), by omega, rfl, hlt, q⟩, fun x H2 y => ?_⟩
    obtain ⟨Hd2, d, st, sub2, hd, dx⟩ := hyld i H1 Hd1 x H2 hlt x1 a1.sub y
    have e3 : ds.drop i = d :: ds.drop (i + 1) := by
      rw [List.drop_eq_getElem_cons hlt]
      rw [List.getElem?_eq_getElem hlt] at hd
      rw [Option.some.inj hd]
    rw [e3] at c1
    have a1' := a1.up st sub2
    have c2 : WC K g vs d (wipeD δ vs) M1 fun δ1 => WT K tt δ1 M1 fun b M1 => if b = true then WE K te δ1 M1 fun y M2 => acc.length < sizeLine ∧ comp K g tt te vs (ds.drop (i + 1)) (wipeD δ vs) M2 (acc ++ [y]) RL else comp K g tt te vs (ds.drop (i + 1)) (wipeD δ vs) M1 acc RL := c1
    refine c2 (wipe σ vs) H2 Hd2 ls x _ a1'.wiped dx fun δ2 σ2 a2 l2 j2 q2 => ⟨?_, ?_⟩
    · rw [wipe_same l2 j2, wipe_wipe]
    · have back : ∀ {δ3 : Dl} {M3 : Ms} {σ3 : L2.St} {H3 Hd3 : Hp}, Sta K δ3 M3 σ3 H3 Hd3 ls → Step H2 Hd2 ls H3 Hd3 → Sta K δ M3 σ H3 Hd3 ls := fun a3 s3 =>
        ⟨a3.sub, a3.mlen, a3.nd, a3.obj, a.dlen, fun j z hz => by
          obtain ⟨v, hv, dv⟩ := a1'.dat j z hz
          exact ⟨v, hv, dv.up s3.ext⟩, a.own⟩
      refine q2 σ2 H2 Hd2 ls _ a2 fun b M3 H3 Hd3 a3 s3 q3 => ?_
      have st' : Step H1 Hd1 ls H2 Hd2 := st.all
      have s13 := st'.trans s3
      have n3 : Hd3 Dn = none := s13.new Dn (by rw [h1]; simp) n1
      have h3 : H3 Dn = some (.lst xs) := s13.old Dn _ h1 nDn
      cases b with
      | false =>
        simp only [Bool.false_eq_true, if_false] at q3 ⊢
        exact ⟨M3, Hd3, xs, acc, back a3 s3, s1.trans s13, x1.trans s13.ext, n3, h3, d1.up s13.ext, q3⟩
      | true =>
        simp only [if_true] at q3 ⊢
        refine q3 σ2 H3 Hd3 ls _ a3 fun v y M4 H4 Hd4 a4 s4 dv q4 => ?_
        have s14 := s13.trans s4
        have n4 : Hd4 Dn = none := s4.new Dn (by rw [h3]; simp) n3
        have h4 : H4 Dn = some (.lst xs) := s4.old Dn _ h3 nDn
        have a4' := back a4 (s3.trans s4)
        refine ⟨xs, h4, by rw [d1.length]; exact q4.1, M4, Hd4, xs ++ [v], acc ++ [y], ?_, ?_, x1.trans s14.ext, n4, upd_same, ((d1.up s14.ext).app (.one dv)), q4.2⟩
        · refine ⟨fun b u e => ?_, a4'.mlen, a4'.nd, fun j l m hl hm => ?_, a4'.dlen, a4'.dat, a4'.own⟩
          · rw [upd_ne (ne_of_none e n4)]; exact a4'.sub b u e
          · have hx : l ≠ Dn := fun e => nDn (e ▸ List.mem_of_getElem? hl)
            have := a4'.obj j l m hl hm
            cases m with
            | lst es => obtain ⟨z, ys, hy, hs⟩ := this; exact ⟨z, ys, by rw [upd_ne hx]; exact hy, hs⟩
            | dic es => obtain ⟨z, ys, hy, hk, hs⟩ := this; exact ⟨z, ys, by rw [upd_ne hx]; exact hy, hk, hs⟩
            | gone => exact this
        · have z := s1.trans s14
          refine ⟨z.ext, fun b u e n => ?_, z.new, fun b e => ?_⟩
          · have : b ≠ Dn := ne_of_none e hDn
            rw [upd_ne this]; exact z.old b u e n
          · by_cases e' : b = Dn
            · subst e'; rw [upd_same]; simp
            · rw [upd_ne e']; exact z.there b e
  · have e2 : i = ds.length := by omega
    subst e2
    rw [List.drop_length] at c1
    exact .inl ⟨hstop H1 ex1, k xs acc M1 H1 Hd1 a1 s1 x1 n1 h1 d1 c1⟩
/-- what keys and items yield -/
theorem keys_yld {Hd : Hp} {d : Addr} {o : Obj} {ps : List (Str × D)} : ∀ (i : Nat) (H' Hd' : Hp) (x : V) (H2 : Hp), i < (ps.map fun p => PyData.str p.1).length → Ex Hd Hd' → Ex Hd' H' → (Itk d o (kvD ps)).yld i H' x H2 → ∃ Hd2 e, Step H' Hd' [] H2 Hd2 ∧ Ex Hd2 H2 ∧ (ps.map fun p => PyData.str p.1)[i]? = some e ∧ Dp K Hd2 x e := fun i H' Hd' x H2 hi _ sub y => by
  obtain ⟨rfl, ky, v, hk, rfl⟩ := y
  refine ⟨Hd', ?_⟩
  rw [List.getElem?_map] at hk ⊢
  cases hp : ps[i]? with
  | none => rw [hp] at hk; cases hk
  | some p =>
    rw [hp] at hk
    cases hk
    exact ⟨_, Step.refl, sub, rfl, .str p.1⟩
theorem items_yld {Hd : Hp} {d : Addr} {o : Obj} {ps : List (Str × D)} (lf : lfP ps) : ∀ (i : Nat) (H' Hd' : Hp) (x : V) (H2 : Hp), i < (ps.map fun p => PyData.tuple [.str p.1, p.2]).length → Ex Hd Hd' → Ex Hd' H' → (Iti d o (kvD ps)).yld i H' x H2 → ∃ Hd2 e, Step H' Hd' [] H2 Hd2 ∧ Ex Hd2 H2 ∧ (ps.map fun p => PyData.tuple [.str p.1, p.2])[i]? = some e ∧ Dp K Hd2 x e := fun i H' Hd' x H2 hi _ sub y => by
  obtain ⟨T, ky, v, hk, rfl, hT, rfl⟩ := y
  rw [List.getElem?_map] at hk ⊢
  cases hp : ps[i]? with
  | none => rw [hp] at hk; cases hk
  | some p =>
    rw [hp] at hk
    cases hk
    have hl : lfD p.2 = true := List.all_eq_true.mp lf p (List.mem_of_getElem? hp)
    obtain ⟨st, exx, dn⟩ := tupNew (K := K) (xs := [.str p.1, lfV p.2]) (ds := [.str p.1, p.2]) sub hT (.cons (.str _) (.cons (lf_is hl) .nil))
    exact ⟨_, _, st, exx, rfl, dn⟩
/-- a WL on a dict that is locked for the time, if it is not for good -/
theorem wl_lkd {t : TE} {i : Nat} {ps : List (Str × D)} (ho : δ[i]? = some (some (.dat (dcD ps))))
    (h : ∀ (σ : L2.St) (H Hd : Hp) (ls : List Addr) (Q : VK) (d : Addr) (o : Obj), Sta K δ M σ H Hd ls → σ[i]? = some (some (.ref d)) → Hd d = some (.frz o (.dK (kvD ps))) → lfP ps → (∀ p xs es M' H' Hd', Sta K δ M' σ H' Hd' ls → Step H Hd ls H' Hd' → H p = none → Hd' p = none → p ∉ ls → H' p = some (.lst xs) → DpAll K Hd' xs es → RL es M' → Q (.ref p) H') → t σ H Q) :
    WL K (tLk t) δ M RL := fun σ H Hd ls Q a k => by
  obtain ⟨v, hv, dv⟩ := a.dat i _ ho
  obtain ⟨d, rfl, h1, lf⟩ := dic_is dv
  rcases h1 with h1 | ⟨o, h1⟩
  · refine .inr ⟨d, _, a.sub _ _ h1, trivial, fun od => ?_⟩
    have ne : Hd d ≠ none := by rw [h1]; simp
    refine h _ _ _ ls _ d od (a.swap ne (rd_lock h1)) hv upd_same lf fun p xs es M' H' Hd' a' s' e1 e2 e3 e4 e5 q => ?_
    have f1 := s'.ext _ _ (upd_same (H := Hd) (a := d))
    have np : p ≠ d := fun z => by rw [z, upd_same] at e1; cases e1
    have s2 := s'.swap h1 (a.sub _ _ h1)
    have ne' : Hd' d ≠ none := by rw [f1]; simp
    have rd := rd_unlock f1
    exact ⟨a'.sub _ _ f1, k p xs es M' _ _ (a'.swap ne' rd) s2 (by rw [upd_ne np] at e1; exact e1) (by rw [upd_ne np]; exact e2) e3 (by rw [upd_ne np]; exact e4) (dpa_rd rd _ _ e5) q⟩
  · exact .inl (h _ _ _ ls _ d o a hv h1 lf k)
/-- [.. for k, v in d.items()] -/
theorem wl_lcI {i : Nat} {ps : List (Str × D)} (ho : δ[i]? = some (some (.dat (dcD ps)))) (h : comp K g tt te vs (ps.map fun p => .tuple [.str p.1, p.2]) (wipeD δ vs) M [] RL) : WL K (tLk (tLc (iItems (tVar i)) g tt te vs)) δ M RL :=
  wl_lkd ho fun σ H Hd ls Q d o a hv hd lf k => by
    refine ⟨_, hv, d, o, _, rfl, a.sub _ _ hd, fun Dn hDn => ?_⟩
    have s0 : Step H Hd ls (upd H Dn (.lst [])) Hd := (step_new hDn).all
    exact comp_at (sta_new a hDn) s0 hDn (fresh_hd a.sub hDn) (not_ls a hDn) upd_same .nil (fun j H' hj x => ⟨x _ _ hd, by simpa using hj⟩) (fun H' x => ⟨x _ _ hd, by simp⟩) (items_yld lf) h
      fun xs es M' H' Hd' a' s' _ n' h' d' q => k Dn xs es M' H' Hd' a' s' hDn n' (not_ls a hDn) h' d' q
/-- the outer turns of [.. for x in d for y in d if ..] -/
def comp2 (K : Fg) (g g1 : TG) (tt1 : TT) (te : TE) (vs vs1 : List Nat) (es : List D) : List D → Dl → Ms → List D → (List D → Ms → Prop) → Prop
  | [], _, M, acc, R => R acc M
  | d :: r, δ, M, acc, R => WC K g vs d δ M fun δ1 => comp K g1 tt1 te vs1 es (wipeD δ1 vs1) M acc fun acc' M' => comp2 K g g1 tt1 te vs vs1 es r δ M' acc' R
theorem wl_lc2K {i : Nat} {ps : List (Str × D)} (ho : δ[i]? = some (some (.dat (dcD ps)))) (hvs : i ∉ vs) (h : comp2 K g g1 tt1 te vs vs1 (ps.map fun p => .str p.1) (ps.map fun p => .str p.1) (wipeD δ vs) M [] RL) :
    WL K (tLk (tLc2 (iKeys (tVar i)) g tYes (iKeys (tVar i)) g1 tt1 te vs vs1)) δ M RL :=
  wl_lkd ho fun σ H Hd ls Q d o a hv hd lf k => by
    refine ⟨_, hv, d, o, rfl, .inl ⟨_, a.sub _ _ hd, fun Dn hDn => ?_⟩⟩
    have nDn : Dn ∉ ls := not_ls a hDn
    have s0 : Step H Hd ls (upd H Dn (.lst [])) Hd := (step_new hDn).all
    generalize hes : (ps.map fun p => PyData.str p.1) = es at h
    have hel : es.length = ps.length := by rw [← hes, List.length_map]
    let In : Nat → Hp → Prop := fun j H' => ∃ M' Hd' xs acc, Sta K δ M' σ H' Hd' ls ∧ Step H Hd ls H' Hd' ∧ Hd' Dn = none ∧ H' Dn = some (.lst xs) ∧ DpAll K Hd' xs acc ∧ comp2 K g g1 tt1 te vs vs1 es (es.drop j) (wipeD δ vs) M' acc RL
    refine ⟨fun j m H' => m = es.length - j ∧ j ≤ es.length ∧ In j H', ⟨es.length, by simp, Nat.zero_le _, M, Hd, [], [], sta_new a hDn, s0, fresh_hd a.sub hDn, upd_same, .nil, by simpa using h⟩, ?_⟩
    rintro j m H1 ⟨rfl, hj, M1, Hd1, xs, acc, a1, s1, n1, h1, d1, c1⟩
    have hd1 : Hd1 d = some (.frz o (.dK (kvD ps))) := s1.ext _ _ hd
    by_cases hlt : j < es.length
    · refine .inr ⟨⟨a1.sub _ _ hd1, by rw [List.length_map]; omega⟩, In (j + 1), fun H' q => ⟨es.length - (j + 1), by omega, rfl, hlt, q⟩, fun x H2 y => ?_⟩
      obtain ⟨e2, ky, v, hk, rfl⟩ := y
      subst e2
      have he : ∃ e, es[j]? = some e ∧ Dp K Hd1 (kV ky) e := by
        rw [List.getElem?_map] at hk
        cases hp : ps[j]? with
        | none => rw [hp] at hk; cases hk
        | some p =>
          rw [hp] at hk
          cases hk
          exact ⟨.str p.1, by rw [← hes, List.getElem?_map, hp]; rfl, .str p.1⟩
      obtain ⟨e, hje, dx⟩ := he
      have e3 : es.drop j = e :: es.drop (j + 1) := by
        rw [List.drop_eq_getElem_cons hlt]
        rw [List.getElem?_eq_getElem hlt] at hje
        rw [Option.some.inj hje]
      rw [e3] at c1
      have c2 : WC K g vs e (wipeD δ vs) M1 fun δ1 => comp K g1 tt1 te vs1 es (wipeD δ1 vs1) M1 acc fun acc' M' => comp2 K g g1 tt1 te vs vs1 es (es.drop (j + 1)) (wipeD δ vs) M' acc' RL := c1
      refine c2 (wipe σ vs) H2 Hd1 ls _ _ a1.wiped dx fun δ2 σ2 a2 l2 j2 q2 => ⟨?_, ?_⟩
      · rw [wipe_same l2 j2, wipe_wipe]
      · simp only [tYes, if_true]
        have hσ : σ2[i]? = some (some (.ref d)) := by rw [j2 i hvs, wipe_out hvs]; exact hv
        refine ⟨_, hσ, d, o, rfl, .inl ⟨_, a1.sub _ _ hd1, ?_⟩⟩
        subst hes
        exact comp_at (Z := In (j + 1)) a2 s1 hDn n1 nDn h1 d1 (fun j H' hj x => ⟨x _ _ hd1, by simpa using hj⟩) (fun H' x => ⟨x _ _ hd1, by simp⟩) keys_yld q2
          fun xs es M' H' Hd' a' s' x' n' h' d' q => ⟨M', Hd', xs, es, ⟨a'.sub, a'.mlen, a'.nd, a'.obj, a.dlen, fun j z hz => by
            obtain ⟨v, hv, dv⟩ := a1.dat j z hz
            exact ⟨v, hv, dv.up x'⟩, a.own⟩, s', n', h', d', q⟩
    · have e2 : j = es.length := by omega
      subst e2
      rw [List.drop_length] at c1
      exact .inl ⟨⟨a1.sub _ _ hd1, by rw [List.length_map]; omega⟩, k Dn xs acc M1 H1 Hd1 a1 s1 hDn n1 nDn h1 d1 c1⟩
/-- k not in d, of data -/
theorem we_dnotinD {R : D → Ms → Prop} {ty : TE} {i : Nat} {ps : List (Str × D)} (ho : δ[i]? = some (some (.dat (dcD ps)))) (h : WE K ty δ M fun y M1 => ∃ x, y = .str x ∧ R (.bool (!(getP ps x).isSome)) M1) : WE K (tDNotIn ty (tVar i)) δ M R := fun σ H Hd ls Q a kk => by
  refine h σ H Hd ls _ a fun w y M1 H1 Hd1 a1 s1 dw h1 => ?_
  obtain ⟨v, hv, dv⟩ := a1.dat i _ ho
  obtain ⟨x, rfl, hr⟩ := h1
  cases dw
  obtain ⟨ad, rfl, rd, lf⟩ := dic_is dv
  refine ⟨_, hv, ad, _, rfl, .inl ⟨_, .inr x, rd_up a1.sub rd, rfl, rfl⟩, ?_⟩
  rw [val_kv, Option.isSome_map]
  exact kk _ _ M1 H1 Hd1 a1 s1 (.bl _) hr
/-- for x in d -/
theorem wb_forK {i : Nat} {ps : List (Str × D)} (ho : δ[i]? = some (some (.dat (dcD ps)))) (h : turns K (Own M.length) g tb (ps.map fun p => .str p.1) δ M P) : WB K n (tLkS (tFor (iKeys (tVar i)) g tb)) δ M P := fun e σ H Hd ls W hn r k1 k2 k3 k4 => by
  obtain ⟨v, hv, dv⟩ := r.sta.dat i _ ho
  obtain ⟨a, rfl, rd, lf⟩ := dic_is dv
  have core : ∀ (H0 Hd0 : Hp) (o : Obj) (W0 : Ends), Hd0 a = some (.frz o (.dK (kvD ps))) → Sta K δ M σ H0 Hd0 ls →
      (∀ δ' M' σ' H' Hd' ls', Run K ⟨H0, Hd0, ls⟩ δ' M' σ' H' Hd' ls' → P.nx δ' M' → W0.nx σ' H') →
      (∀ v d δ' M' σ' H' Hd' ls', Run K ⟨H0, Hd0, ls⟩ δ' M' σ' H' Hd' ls' → Dp K Hd' v d → P.rt d M' → W0.rt v H') → tFor (iKeys (tVar i)) g tb W0 σ H0 := by
    intro H0 Hd0 o W0 hd st c1 c2
    refine ⟨_, hv, a, o, rfl, .inl ⟨_, st.sub _ _ hd, ?_⟩⟩
    have r0 : Run K ⟨H0, Hd0, ls⟩ δ M σ H0 Hd0 ls := ⟨st, Step.refl, List.prefix_refl _, fun k l h hk => by
      rw [List.getElem?_eq_none hk] at h; cases h⟩
    refine for_turns (D' := D) (show Own M.length ⟨H0, Hd0, ls⟩ from st.mlen) r0 (fun j H' hj x => ?_) (fun H' x => ?_) (fun j H' y H2 hj ex z => ?_) h (fun δ' M' σ' H' Hd' ls' r' _ _ q => c1 δ' M' σ' H' Hd' ls' r' q) (fun v d δ' M' σ' H' Hd' ls' r' _ _ dv q => c2 v d δ' M' σ' H' Hd' ls' r' dv q)
    · exact ⟨x _ _ hd, by simpa using hj⟩
    · exact ⟨x _ _ hd, by simp⟩
    · obtain ⟨e1, ky, v, hk, rfl⟩ := z
      refine ⟨e1, ?_⟩
      rw [List.getElem?_map] at hk ⊢
      cases hp : ps[j]? with
      | none => rw [hp] at hk; cases hk
      | some p =>
        rw [hp] at hk
        cases hk
        exact ⟨_, rfl, .str p.1⟩
  rcases rd with h1 | ⟨o, h1⟩
  · refine .inr ⟨a, _, r.sta.sub _ _ h1, trivial, fun od => ?_⟩
    have hH := r.sta.sub _ _ h1
    have ne : Hd a ≠ none := by rw [h1]; simp
    refine core _ _ od _ upd_same (r.sta.swap ne (rd_lock h1)) (fun δ' M' σ' H' Hd' ls' q w => ?_) (fun v d δ' M' σ' H' Hd' ls' q dv w => ?_)
    · obtain ⟨f1, f2, q2⟩ := q.unlock h1 hH
      exact ⟨f1, k1 _ _ _ _ _ _ (r.join q2) q2.step.ext q2.pre w⟩
    · obtain ⟨f1, f2, q2⟩ := q.unlock h1 hH
      exact ⟨f1, k2 _ _ _ _ _ _ _ _ (r.join q2) q2.step.ext q2.pre (dp_rd f2 _ _ dv) w⟩
  · refine .inl (core _ _ o _ h1 r.sta (fun δ' M' σ' H' Hd' ls' q w => k1 _ _ _ _ _ _ (r.join q) q.step.ext q.pre w) (fun v d δ' M' σ' H' Hd' ls' q dv w => k2 _ _ _ _ _ _ _ _ (r.join q) q.step.ext q.pre dv w))
end
end PW

set_option Elab.async false
set_option linter.all false
set_option maxRecDepth 100000
set_option maxHeartbeats 4000000
namespace K29
open PySem L2 Evl PySem.Spec PyProof.Rows PW
def topS (i : Nat) : Stmt := PySem.Challenge.pw_squeezedkeyer_k29_letters_broken_and_joi.main.body.getD i (.Pass ⟨0, 0, 0, 0⟩)
abbrev s_check_code : Stmt := topS 9
theorem sc_check_code : FnScope ["value", "letter"] ["value"] (defScope s_check_code) := ⟨rfl, rfl, rfl, by decide +kernel, rfl, by decide +kernel, by decide +kernel⟩
abbrev s_has_letters : Stmt := topS 10
theorem sc_has_letters : FnScope ["value", "key"] ["value"] (defScope s_has_letters) := ⟨rfl, rfl, rfl, by decide +kernel, rfl, by decide +kernel, by decide +kernel⟩
abbrev s_is_letter : Stmt := topS 11
theorem sc_is_letter : FnScope ["value"] ["value"] (defScope s_is_letter) := ⟨rfl, rfl, rfl, by decide +kernel, rfl, by decide +kernel, by decide +kernel⟩
abbrev s_wrong_letter : Stmt := topS 12
theorem sc_wrong_letter : FnScope ["code", "seen", "letter", "word"] ["code"] (defScope s_wrong_letter) := ⟨rfl, rfl, rfl, by decide +kernel, rfl, by decide +kernel, by decide +kernel⟩
abbrev s_is_word : Stmt := topS 13
theorem sc_is_word : FnScope ["value"] ["value"] (defScope s_is_word) := ⟨rfl, rfl, rfl, by decide +kernel, rfl, by decide +kernel, by decide +kernel⟩
abbrev s_has_signs : Stmt := topS 14
theorem sc_has_signs : FnScope ["value", "sign"] ["value"] (defScope s_has_signs) := ⟨rfl, rfl, rfl, by decide +kernel, rfl, by decide +kernel, by decide +kernel⟩
abbrev s_broken : Stmt := topS 15
theorem sc_broken : FnScope ["code", "letter", "word", "one", "other"] ["code", "letter"] (defScope s_broken) := ⟨rfl, rfl, rfl, by decide +kernel, rfl, by decide +kernel, by decide +kernel⟩
abbrev s_joined_letter : Stmt := topS 16
theorem sc_joined_letter : FnScope ["code", "text", "word", "letter"] ["code", "text"] (defScope s_joined_letter) := ⟨rfl, rfl, rfl, by decide +kernel, rfl, by decide +kernel, by decide +kernel⟩
abbrev s_law_fount : Stmt := topS 18
theorem sc_law_fount : FnScope ["script", "k", "cell"] ["script", "k"] (defScope s_law_fount) := ⟨rfl, rfl, rfl, by decide +kernel, rfl, by decide +kernel, by decide +kernel⟩
abbrev s_law_dip : Stmt := topS 19
theorem sc_law_dip : FnScope ["fount", "many", "mixed", "digit"] ["fount", "many"] (defScope s_law_dip) := ⟨rfl, rfl, rfl, by decide +kernel, rfl, by decide +kernel, by decide +kernel⟩
abbrev s_law_word : Stmt := topS 20
theorem sc_law_word : FnScope ["fount", "most", "turn"] ["fount", "most"] (defScope s_law_word) := ⟨rfl, rfl, rfl, by decide +kernel, rfl, by decide +kernel, by decide +kernel⟩
abbrev s_law_code : Stmt := topS 21
theorem sc_law_code : FnScope ["fount", "many", "most", "turn", "left", "found", "word", "letter", "words"] ["fount", "many", "most"] (defScope s_law_code) := ⟨rfl, rfl, rfl, by decide +kernel, rfl, by decide +kernel, by decide +kernel⟩
abbrev s_law_broken : Stmt := topS 22
theorem sc_law_broken : FnScope ["code", "letter", "at", "letters", "word", "found", "one"] ["code", "letter"] (defScope s_law_broken) := ⟨rfl, rfl, rfl, by decide +kernel, rfl, by decide +kernel, by decide +kernel⟩
abbrev s_law_right : Stmt := topS 23
theorem sc_law_right : FnScope ["fount", "code", "words", "letter", "names_here", "turn", "kept", "other", "text", "word", "due", "told", "lap"] ["fount", "code"] (defScope s_law_right) := ⟨rfl, rfl, rfl, by decide +kernel, rfl, by decide +kernel, by decide +kernel⟩
abbrev s_law : Stmt := topS 24
theorem sc_law : FnScope ["script", "k", "code", "told", "fount", "many", "most", "text"] ["script"] (defScope s_law) := ⟨rfl, rfl, rfl, by decide +kernel, rfl, by decide +kernel, by decide +kernel⟩
/-- what the top has left -/
structure Tx (K : Fg) (mg : Str → Option Value) where
  f_check_code : Addr
  d_check_code : FuncData
  F_check_code : Fun K "check_code" "check_code" s_check_code f_check_code d_check_code
  m_check_code : mg "check_code" = some (.ref f_check_code)
  b_check_code : Binds K d_check_code ["value"] []
  f_has_letters : Addr
  d_has_letters : FuncData
  F_has_letters : Fun K "has_letters" "has_letters" s_has_letters f_has_letters d_has_letters
  m_has_letters : mg "has_letters" = some (.ref f_has_letters)
  b_has_letters : Binds K d_has_letters ["value"] []
  f_is_letter : Addr
  d_is_letter : FuncData
  F_is_letter : Fun K "is_letter" "is_letter" s_is_letter f_is_letter d_is_letter
  m_is_letter : mg "is_letter" = some (.ref f_is_letter)
  b_is_letter : Binds K d_is_letter ["value"] []
  f_wrong_letter : Addr
  d_wrong_letter : FuncData
  F_wrong_letter : Fun K "wrong_letter" "wrong_letter" s_wrong_letter f_wrong_letter d_wrong_letter
  m_wrong_letter : mg "wrong_letter" = some (.ref f_wrong_letter)
  b_wrong_letter : Binds K d_wrong_letter ["code"] []
  f_is_word : Addr
  d_is_word : FuncData
  F_is_word : Fun K "is_word" "is_word" s_is_word f_is_word d_is_word
  m_is_word : mg "is_word" = some (.ref f_is_word)
  b_is_word : Binds K d_is_word ["value"] []
  f_has_signs : Addr
  d_has_signs : FuncData
  F_has_signs : Fun K "has_signs" "has_signs" s_has_signs f_has_signs d_has_signs
  m_has_signs : mg "has_signs" = some (.ref f_has_signs)
  b_has_signs : Binds K d_has_signs ["value"] []
  f_broken : Addr
  d_broken : FuncData
  F_broken : Fun K "broken" "broken" s_broken f_broken d_broken
  m_broken : mg "broken" = some (.ref f_broken)
  b_broken : Binds K d_broken ["code", "letter"] []
  f_joined_letter : Addr
  d_joined_letter : FuncData
  F_joined_letter : Fun K "joined_letter" "joined_letter" s_joined_letter f_joined_letter d_joined_letter
  m_joined_letter : mg "joined_letter" = some (.ref f_joined_letter)
  b_joined_letter : Binds K d_joined_letter ["code", "text"] []
  f_law_fount : Addr
  d_law_fount : FuncData
  F_law_fount : Fun K "_law_fount" "_law_fount" s_law_fount f_law_fount d_law_fount
  m_law_fount : mg "_law_fount" = some (.ref f_law_fount)
  b_law_fount : Binds K d_law_fount ["script", "k"] []
  f_law_dip : Addr
  d_law_dip : FuncData
  F_law_dip : Fun K "_law_dip" "_law_dip" s_law_dip f_law_dip d_law_dip
  m_law_dip : mg "_law_dip" = some (.ref f_law_dip)
  b_law_dip : Binds K d_law_dip ["fount", "many"] []
  f_law_word : Addr
  d_law_word : FuncData
  F_law_word : Fun K "_law_word" "_law_word" s_law_word f_law_word d_law_word
  m_law_word : mg "_law_word" = some (.ref f_law_word)
  b_law_word : Binds K d_law_word ["fount", "most"] []
  f_law_code : Addr
  d_law_code : FuncData
  F_law_code : Fun K "_law_code" "_law_code" s_law_code f_law_code d_law_code
  m_law_code : mg "_law_code" = some (.ref f_law_code)
  b_law_code : Binds K d_law_code ["fount", "many", "most"] []
  f_law_broken : Addr
  d_law_broken : FuncData
  F_law_broken : Fun K "_law_broken" "_law_broken" s_law_broken f_law_broken d_law_broken
  m_law_broken : mg "_law_broken" = some (.ref f_law_broken)
  b_law_broken : Binds K d_law_broken ["code", "letter"] []
  f_law_right : Addr
  d_law_right : FuncData
  F_law_right : Fun K "_law_right" "_law_right" s_law_right f_law_right d_law_right
  m_law_right : mg "_law_right" = some (.ref f_law_right)
  b_law_right : Binds K d_law_right ["fount", "code"] []
  f_law : Addr
  d_law : FuncData
  F_law : Fun K "law" "law" s_law f_law d_law
  m_law : mg "law" = some (.ref f_law)
  b_law : Binds K d_law ["script"] []
  v_LEVERS : V
  u_LEVERS : Value
  m_LEVERS : mg "LEVERS" = some u_LEVERS
  r_LEVERS : RelV v_LEVERS u_LEVERS
  p_LEVERS : ∀ H, PW.Dp K H v_LEVERS (.tuple [(.str "s"), (.str "l")])
  v_LETTERS : V
  u_LETTERS : Value
  m_LETTERS : mg "LETTERS" = some u_LETTERS
  r_LETTERS : RelV v_LETTERS u_LETTERS
  p_LETTERS : ∀ H, PW.Dp K H v_LETTERS (.str "abcdefghijklmnopqrstuvwxyz0123456789")
  v_MOST_SIGNS : V
  u_MOST_SIGNS : Value
  m_MOST_SIGNS : mg "MOST_SIGNS" = some u_MOST_SIGNS
  r_MOST_SIGNS : RelV v_MOST_SIGNS u_MOST_SIGNS
  p_MOST_SIGNS : ∀ H, PW.Dp K H v_MOST_SIGNS (.int 8)
  n_abs : mg "abs" = none
  n_all : mg "all" = none
  n_dict : mg "dict" = none
  n_int : mg "int" = none
  n_isinstance : mg "isinstance" = none
  n_len : mg "len" = none
  n_list : mg "list" = none
  n_max : mg "max" = none
  n_min : mg "min" = none
  n_range : mg "range" = none
  n_repr : mg "repr" = none
  n_sorted : mg "sorted" = none
  n_str : mg "str" = none
end K29

set_option Elab.async false
set_option linter.all false
set_option maxRecDepth 100000
set_option maxHeartbeats 2000000
set_option exponentiation.threshold 500
namespace K29
open PySem L2 Evl PySem.Spec PyProof.Rows PW TL
local macro_rules | `(tactic| walk_at "wp0") => `(tactic| first
  | (with_reducible refine wb_seq ?_) | (with_reducible refine wb_asg ?_) | (with_reducible refine wg_name ?_) | (with_reducible refine wb_ret ?_) | (with_reducible refine vb_if ?_) | (with_reducible refine wb_next ?_) | (with_reducible refine wb_drop ?_) | (with_reducible refine wb_retN ?_)
  | ((with_reducible show WG _ (gTup _ _ _) _ _ _ _); refine wg_tup rfl ?_) | (with_reducible refine wgs_cons ?_) | ((with_reducible show WGs _ (gCons _ _) _ _ _ _); refine wgs_cons ?_) | (with_reducible refine wgs_nil ?_) | ((with_reducible show WGs _ gNil _ _ _ _); refine wgs_nil ?_)
  | ((with_reducible show WE _ (tVar _) _ _ _); refine we_var rfl ?_)
  | (with_reducible refine we_int ?_) | (with_reducible refine we_str ?_) | (with_reducible refine we_bl ?_) | (with_reducible refine we_non ?_)
  | (with_reducible refine we_isi kit_int ?_) | (with_reducible refine we_isi kit_bool ?_) | (with_reducible refine we_isi kit_str ?_) | (with_reducible refine we_isi kit_tup ?_) | (with_reducible refine we_isi kit_lst ?_)
  | ((with_reducible show WE _ (tOp (rIx _) (tVar _) (tC _)) _ _ _); refine we_ixO rfl rfl rfl ?_)
  | ((with_reducible show WE _ (tOp (rCatS _) _ _) _ _ _); refine we_wl (wl_op ?_)) | ((with_reducible refine ol_cat ?s1 ?_); (case s1 => exact len_ok rfl)) | ((with_reducible refine od_catA ?s1 ?_); (case s1 => exact len_ok rfl))
  | (with_reducible refine we_op ?_) | (with_reducible refine we_tup ?_) | (with_reducible refine we_lst ?_) | (with_reducible refine we_pur ?_) | (with_reducible refine we_cb ?_) | (with_reducible refine we_slA ?_)
  | (with_reducible refine we_wl (wl_slL ?_)) | (with_reducible refine wo_none ?_) | (with_reducible refine wo_some ?_)
  | (with_reducible refine wd_cons ?_) | (with_reducible refine wd_nil ?_)
  | (with_reducible refine ve_and ?_) | (with_reducible refine ve_or ?_) | (with_reducible refine ve_not ?_) | (with_reducible refine ve_if ?_)
  | (with_reducible refine vt_and ?_) | (with_reducible refine vt_or ?_) | (with_reducible refine wt_not ?_) | (with_reducible refine wt_testB ?_) | (with_reducible refine wt_truB ?_)
  | (with_reducible refine od_int0 ?_) | ((with_reducible refine od_int ?s1 ?_); (case s1 => first | assumption | decide | exact ⟨by decide, by decide⟩)) | ((with_reducible show OD _ (rIx _) (.list _) (.int _) _); refine od_ix_l rfl ?_) | ((with_reducible show OD _ (rIx _) (.tuple _) (.int _) _); refine od_ix_t rfl ?_) | ((with_reducible show WG _ (gSub (tVar _) _ _) _ _ _ _); refine wg_sub rfl ?_) | (with_reducible refine od_bl0 ?_)
  | ((with_reducible show WE _ (tC _) _ _ _); refine we_con (d := ?wd) ?wc0 ?_; (case wc0 => assumption))
  | (with_reducible refine OD.or1 (od_eqS ?_)) | (with_reducible refine OD.or1 (od_neS ?_)) | (with_reducible refine od_isN ?_) | (with_reducible refine od_notN ?_)
  | ((with_reducible refine OD.or2 (od_eqD ?s1 ?s2 ?_)); (case s1 => first | assumption | exact rfl | decide +kernel); (case s2 => first | assumption | exact rfl | decide +kernel)) | ((with_reducible refine OD.or2 (od_neD ?s1 ?s2 ?_)); (case s1 => first | assumption | exact rfl | decide +kernel); (case s2 => first | assumption | exact rfl | decide +kernel))
  | ((with_reducible refine od_inT ?s1 ?s2 ?_); (case s1 => first | assumption | exact rfl | decide +kernel); (case s2 => first | assumption | exact rfl | decide +kernel)) | ((with_reducible refine od_notInT ?s1 ?s2 ?_); (case s1 => first | assumption | exact rfl | decide +kernel); (case s2 => first | assumption | exact rfl | decide +kernel))
  | (with_reducible refine cd_abs ?_) | (with_reducible refine cd_int ?_) | (with_reducible refine cd_max2 ?_) | (with_reducible refine cd_min2 ?_) | (with_reducible refine cd_lenL ?_) | (with_reducible refine cd_lenT ?_)
  | (with_reducible refine And.intro (fun hT => ?_) (fun hT => ?_))
  | ((with_reducible refine Exists.intro ?wc (And.intro ?we ?_)); (case we => exact rfl))
  | ((with_reducible show ∃ (_ : Int) (_ : Nat) (_ : List D), _); refine ⟨_, _, _, rfl, rfl, rfl, ?_⟩)
  | ((with_reducible refine And.intro ?we ?_); (case we => first | exact rfl | exact trivial | exact len_ok rfl | exact ⟨_, rfl⟩ | exact ⟨_, _, rfl⟩ | exact ⟨_, _, rfl, rfl⟩ | exact ⟨_, _, _, rfl⟩ | exact ⟨_, rfl, by assumption⟩ | exact ⟨_, by assumption, rfl⟩ | assumption)))
local macro_rules | `(tactic| walk_at "wp") => `(tactic| repeat' (first | walk_at "wp0" | fail))

/-- signs, letters, codes -/
def SgT (z : Str) : Prop := ∀ c ∈ tl z, c = 115 ∨ c = 108
abbrev abc : Str := "abcdefghijklmnopqrstuvwxyz0123456789"
def LetT (z : Str) : Prop := ∃ c, z = ⟨#[c]⟩ ∧ c ∈ tl abc
abbrev wps (cs : List (Str × Str)) : List (Str × D) := cs.map fun p => (p.1, .str p.2)
abbrev wd (cs : List (Str × Str)) : D := dcD (wps cs)
structure CodeP (cs : List (Str × Str)) : Prop where
  lo : 1 ≤ cs.length
  hi : cs.length ≤ 36
  lt : ∀ p ∈ cs, LetT p.1
  nd : (cs.map (·.1)).Nodup
  nw : (cs.map (·.2)).Nodup
  wo : ∀ p ∈ cs, SgT p.2 ∧ 1 ≤ p.2.length ∧ p.2.length ≤ 8
def foll (cs : List (Str × Str)) (w : Str) : List Str := (cs.filter fun p => Txt.startswith p.2 w).map (·.1)
theorem get_of : ∀ {cs : List (Str × Str)}, (cs.map (·.1)).Nodup → ∀ {p}, p ∈ cs → getP (wps cs) p.1 = some (.str p.2)
  | [], _, _, h => nomatch h
  | q :: r, nd, p, h => by
    rw [List.map_cons, List.nodup_cons] at nd
    show (if q.1 = p.1 then some (.str q.2) else getP (wps r) p.1) = _
    rcases List.mem_cons.mp h with rfl | h
    · rw [if_pos rfl]
    · rw [if_neg fun z => nd.1 (by rw [z]; exact List.mem_map_of_mem h)]
      exact get_of nd.2 h
theorem lf_wps (cs : List (Str × Str)) : lfP (wps cs) := by
  unfold lfP
  rw [List.all_map]
  exact List.all_eq_true.mpr fun _ _ => rfl
theorem keys_wps (cs : List (Str × Str)) : (wps cs).map (·.1) = cs.map (·.1) := by rw [List.map_map]; rfl
theorem in_lev {c : Nat} (h : c = 115 ∨ c = 108) : ([PyData.str "s", PyData.str "l"].any fun z => PyData.eqv z (.str ⟨#[c]⟩)) = true := by
  rcases h with rfl | rfl <;> decide +kernel
local macro_rules | `(tactic| walk_at "sp0") => `(tactic| first
  | ((with_reducible refine And.intro (fun hT => ?_) (fun hT => ?_)) <;> (first | (exact absurd (show false = true from hT) Bool.false_ne_true) | (exact absurd (show true = false from hT) tnf) | skip))
  | (with_reducible refine we_isi kit_dic ?_)
  | walk_at "wp0")
local macro_rules | `(tactic| walk_at "sp") => `(tactic| repeat' (first | walk_at "sp0" | fail))
section
variable {P : Program} {w : World} {K : Fg} {mg : Str → Option Value} {base : Heap}
abbrev letDom (ds : List D) : Prop := ∃ z, ds = [.str z] ∧ LetT z
theorem ok_is_letter (T : Tx K mg) : FnG P w K mg base 1 T.f_is_letter T.d_is_letter ["value"] (SpF K (pur 1 letDom fun _ => .bool true)) := by
  have p1 := T.p_LETTERS
  refine fg_pur T.F_is_letter sc_is_letter fun cdv A outer s H E hr hg => ⟨_, (pss_one (ps_ret (pe_and (pe_callB call_isi (by rfl) T.n_isinstance (by decide +kernel) (pa_cons (pv 0) (pa_cons (pe_bltn (v := .ty "str") (by rfl) T.n_str (by decide +kernel) rfl) pa_nil))) (pe_and (pe_cmpR (op_eq.or (op_eqD (u65 hr))) (pe_callB call_lenD (by rfl) T.n_len (by decide +kernel) (pa_cons (pv 0) pa_nil)) pe_int (nomark _)) (pe_one (pe_cmpR op_inSign (pv 0) (pe_glob (v := T.v_LETTERS) rfl T.m_LETTERS T.r_LETTERS) (by rfl))))))), fun ds hl hd => ?_⟩
  try simp only [nox_K, cxo_K]
  obtain ⟨z, rfl, c, rfl, hc⟩ := hd
  have hlen : (⟨#[c]⟩ : Str).length = 1 := rfl
  have big := lt_ok (n := 5000) rfl
  walk_at "sp"
  refine cd_lenS (by omega) ?_
  walk_at "sp"
  · refine od_inSign ?_
    rw [decide_eq_true hc]
  all_goals (rename_i hT; exact absurd (hT.symm.trans (rfl : _ = true)) Bool.false_ne_true)
abbrev sgnDom (ds : List D) : Prop := ∃ z, ds = [.str z] ∧ SgT z ∧ z.length ≤ 5000
theorem ok_has_signs (T : Tx K mg) : FnG P w K mg base 1 T.f_has_signs T.d_has_signs ["value"] (SpF K (pur 1 sgnDom fun _ => .bool true)) := by
  have p1 := T.p_LEVERS
  refine fg_pur T.F_has_signs sc_has_signs fun cdv A outer s H E hr hg => ⟨_, (pss_one (ps_ret (pe_and (pe_callB call_isi (by rfl) T.n_isinstance (by decide +kernel) (pa_cons (pv 0) (pa_cons (pe_bltn (v := .ty "str") (by rfl) T.n_str (by decide +kernel) rfl) pa_nil))) (pe_one (pe_callB (cr_all rfl) (by rfl) T.n_all (by decide +kernel) (pa_cons (pe_lc (own := [("sign", 1)]) rfl sc_has_signs.nd (pi_str (pv 0)) (blkOk_by (own := [("sign", 1)]) (N := ["value", "sign"]) (sc := defScope s_has_signs) (by decide +kernel)) (fun _ _ _ _ _ => (pg_name (i := 1) sc_has_signs.nd rfl (Or.inl rfl))) (fun _ _ _ _ _ => pts_nil) (fun _ _ _ _ _ => (pe_cmpR (inK (K := K) rfl) (pv 1) (pe_glob (v := T.v_LEVERS) rfl T.m_LEVERS T.r_LEVERS) (by rfl)))) pa_nil)))))), fun ds hl hd => ?_⟩
  try simp only [nox_K, cxo_K]
  obtain ⟨z, rfl, hz, hlen⟩ := hd
  have big := lt_ok (n := 5001) rfl
  walk_at "sp"
  refine we_wl (wl_lcS ?_)
  walk_at "sp"
  refine comp_fmap (f := fun _ => .bool true) _ [] (fun d hd => ?_) (by simp only [List.length_nil, List.length_map]; rw [← len_tl]; omega) ?_
  · obtain ⟨c, hc, rfl⟩ := List.mem_map.mp hd
    refine wc_name (by decide) ?_
    walk_at "sp"
    show PyData.bool true = .bool _
    rw [in_lev (hz c hc)]
  rw [List.nil_append]
  have eb : (((tl z).map fun c => PyData.str ⟨#[c]⟩).map fun _ => PyData.bool true) = ((tl z).map fun _ => true).map PyData.bool := by
    rw [List.map_map, List.map_map]
    rfl
  have ea : (((tl z).map fun _ => true).all id) = true := by simp
  walk_at "sp"
  refine (show CD K (rAll K) [.list (((tl z).map fun c => PyData.str ⟨#[c]⟩).map fun _ => PyData.bool true)] _ from ?_)
  rw [eb]
  refine cd_all ?_
  rw [ea]
  all_goals first | (rename_i hT; exact absurd (hT.symm.trans (rfl : _ = true)) Bool.false_ne_true) | rfl
abbrev wrdDom (ds : List D) : Prop := ∃ z, ds = [.str z] ∧ SgT z ∧ 1 ≤ z.length ∧ z.length ≤ 8
theorem ok_is_word (T : Tx K mg) : FnG P w K mg base 2 T.f_is_word T.d_is_word ["value"] (SpF K (pur 1 wrdDom fun _ => .bool true)) := by
  have G_has_signs := ok_has_signs (P := P) (w := w) (base := base) T
  have p2 := T.p_MOST_SIGNS
  refine fg_pur T.F_is_word sc_is_word fun cdv A outer s H E hr hg => ⟨_, (pss_one (ps_ret (pe_and (pg_call G_has_signs (hr.mono (by decide)) hg rfl T.m_has_signs T.F_has_signs.kp T.b_has_signs (pa_cons (pv 0) pa_nil)) (pe_one (pe_chain op_le op_le pe_int (pe_callB call_lenD (by rfl) T.n_len (by decide +kernel) (pa_cons (pv 0) pa_nil)) (pe_glob (v := T.v_MOST_SIGNS) rfl T.m_MOST_SIGNS T.r_MOST_SIGNS)))))), fun ds hl hd => ?_⟩
  try simp only [nox_K, cxo_K]
  obtain ⟨z, rfl, hz, h1, h8⟩ := hd
  have big := lt_ok (n := 5001) rfl
  walk_at "sp"
  refine ⟨⟨z, rfl, hz, by omega⟩, ?_⟩
  walk_at "sp"
  refine we_chain ?_
  walk_at "sp"
  refine cd_lenS (by omega) ?_
  walk_at "sp"
  rw [if_pos (decide_eq_true (by omega))]
  walk_at "sp"
  · show PyData.bool _ = _
    rw [decide_eq_true (by omega)]
  · rename_i hT
    cases hT
theorem ok_has_letters (T : Tx K mg) : FnG P w K mg base 2 T.f_has_letters T.d_has_letters ["value"] (SpF K (pur 1 (fun ds => ∃ cs, ds = [wd cs] ∧ CodeP cs) fun _ => .bool true)) := by
  have G_is_letter := ok_is_letter (P := P) (w := w) (base := base) T
  refine fg_pur T.F_has_letters sc_has_letters fun cdv A outer s H E hr hg => ⟨_, (pss_cons (ps_if (PW.pt (pw_or (pt_not (pt_truth (pe_callB call_isi (by rfl) T.n_isinstance (by decide +kernel) (pa_cons (pv 0) (pa_cons (pe_bltn (v := .ty "dict") (by rfl) T.n_dict (by decide +kernel) rfl) pa_nil))) (by intro _; rfl))) (pw_or1 (pt_not (pt_truR (pv 0) (by intro _; rfl)))))) (pss_one (ps_ret pe_bl)) pss_nil) (pss_one (ps_ret (pe_callB (cr_all rfl) (by rfl) T.n_all (by decide +kernel) (pa_cons (pe_lk (pe_lc (own := [("key", 1)]) rfl sc_has_letters.nd (pi_keys (pv 0)) (blkOk_by (own := [("key", 1)]) (N := ["value", "key"]) (sc := defScope s_has_letters) (by decide +kernel)) (fun _ _ _ _ _ => (pg_name (i := 1) sc_has_letters.nd rfl (Or.inl rfl))) (fun _ _ _ _ _ => pts_nil) (fun _ _ _ _ _ => (pg_call G_is_letter (hr.mono (by decide)) hg rfl T.m_is_letter T.F_is_letter.kp T.b_is_letter (pa_cons (pv 1) pa_nil))))) pa_nil))))), fun ds hl hd => ?_⟩
  try simp only [nox_K, cxo_K]
  obtain ⟨cs, rfl, hc⟩ := hd
  have big := lt_ok (n := 5001) rfl
  have hlo := hc.lo
  have hhi := hc.hi
  walk_at "sp"
  refine wt_truD rfl ?_
  have e : (wps cs).isEmpty = false := by
    cases cs with
    | nil => cases hlo
    | cons _ _ => rfl
  rw [e]
  walk_at "sp"
  refine we_wl (wl_lcK (ps := wps cs) rfl ?_)
  refine comp_fmap (f := fun _ => .bool true) _ [] (fun d hd => ?_) (by simp only [List.length_nil, List.length_map]; omega) ?_
  · obtain ⟨p, hp, rfl⟩ := List.mem_map.mp hd
    obtain ⟨q, hq, rfl⟩ := List.mem_map.mp hp
    refine wc_name (by decide) ?_
    walk_at "sp"
    exact ⟨⟨_, rfl, hc.lt q hq⟩, rfl, rfl⟩
  rw [List.nil_append]
  have eb : (((wps cs).map fun p => PyData.str p.1).map fun _ => PyData.bool true) = (cs.map fun _ => true).map PyData.bool := by
    rw [List.map_map, List.map_map, List.map_map]
    rfl
  have ea : ((cs.map fun _ => true).all id) = true := by simp
  walk_at "sp"
  rw [eb]
  refine cd_all ?_
  rw [ea]
end
end K29

set_option Elab.async false
set_option linter.all false
set_option maxRecDepth 100000
set_option maxHeartbeats 2000000
set_option exponentiation.threshold 500
namespace K29
open PySem L2 Evl PySem.Spec PyProof.Rows PW TL
local macro_rules | `(tactic| walk_at "wp0") => `(tactic| first
  | (with_reducible refine wb_seq ?_) | (with_reducible refine wb_asg ?_) | (with_reducible refine wg_name ?_) | (with_reducible refine wb_ret ?_) | (with_reducible refine vb_if ?_) | (with_reducible refine wb_next ?_) | (with_reducible refine wb_drop ?_) | (with_reducible refine wb_retN ?_)
  | ((with_reducible show WG _ (gTup _ _ _) _ _ _ _); refine wg_tup rfl ?_) | (with_reducible refine wgs_cons ?_) | ((with_reducible show WGs _ (gCons _ _) _ _ _ _); refine wgs_cons ?_) | (with_reducible refine wgs_nil ?_) | ((with_reducible show WGs _ gNil _ _ _ _); refine wgs_nil ?_)
  | ((with_reducible show WE _ (tVar _) _ _ _); refine we_var rfl ?_)
  | (with_reducible refine we_int ?_) | (with_reducible refine we_str ?_) | (with_reducible refine we_bl ?_) | (with_reducible refine we_non ?_)
  | (with_reducible refine we_isi kit_int ?_) | (with_reducible refine we_isi kit_bool ?_) | (with_reducible refine we_isi kit_str ?_) | (with_reducible refine we_isi kit_tup ?_) | (with_reducible refine we_isi kit_lst ?_)
  | ((with_reducible show WE _ (tOp (rIx _) (tVar _) (tC _)) _ _ _); refine we_ixO rfl rfl rfl ?_)
  | ((with_reducible show WE _ (tOp (rCatS _) _ _) _ _ _); refine we_wl (wl_op ?_)) | ((with_reducible refine ol_cat ?s1 ?_); (case s1 => exact len_ok rfl)) | ((with_reducible refine od_catA ?s1 ?_); (case s1 => exact len_ok rfl))
  | (with_reducible refine we_op ?_) | (with_reducible refine we_tup ?_) | (with_reducible refine we_lst ?_) | (with_reducible refine we_pur ?_) | (with_reducible refine we_cb ?_) | (with_reducible refine we_slA ?_)
  | (with_reducible refine we_wl (wl_slL ?_)) | (with_reducible refine wo_none ?_) | (with_reducible refine wo_some ?_)
  | (with_reducible refine wd_cons ?_) | (with_reducible refine wd_nil ?_)
  | (with_reducible refine ve_and ?_) | (with_reducible refine ve_or ?_) | (with_reducible refine ve_not ?_) | (with_reducible refine ve_if ?_)
  | (with_reducible refine vt_and ?_) | (with_reducible refine vt_or ?_) | (with_reducible refine wt_not ?_) | (with_reducible refine wt_testB ?_) | (with_reducible refine wt_truB ?_)
  | (with_reducible refine od_int0 ?_) | ((with_reducible refine od_int ?s1 ?_); (case s1 => first | assumption | decide | exact ⟨by decide, by decide⟩)) | ((with_reducible show OD _ (rIx _) (.list _) (.int _) _); refine od_ix_l rfl ?_) | ((with_reducible show OD _ (rIx _) (.tuple _) (.int _) _); refine od_ix_t rfl ?_) | ((with_reducible show WG _ (gSub (tVar _) _ _) _ _ _ _); refine wg_sub rfl ?_) | (with_reducible refine od_bl0 ?_)
  | ((with_reducible show WE _ (tC _) _ _ _); refine we_con (d := ?wd) ?wc0 ?_; (case wc0 => assumption))
  | (with_reducible refine OD.or1 (od_eqS ?_)) | (with_reducible refine OD.or1 (od_neS ?_)) | (with_reducible refine od_isN ?_) | (with_reducible refine od_notN ?_)
  | ((with_reducible refine OD.or2 (od_eqD ?s1 ?s2 ?_)); (case s1 => first | assumption | exact rfl | decide +kernel); (case s2 => first | assumption | exact rfl | decide +kernel)) | ((with_reducible refine OD.or2 (od_neD ?s1 ?s2 ?_)); (case s1 => first | assumption | exact rfl | decide +kernel); (case s2 => first | assumption | exact rfl | decide +kernel))
  | ((with_reducible refine od_inT ?s1 ?s2 ?_); (case s1 => first | assumption | exact rfl | decide +kernel); (case s2 => first | assumption | exact rfl | decide +kernel)) | ((with_reducible refine od_notInT ?s1 ?s2 ?_); (case s1 => first | assumption | exact rfl | decide +kernel); (case s2 => first | assumption | exact rfl | decide +kernel))
  | (with_reducible refine cd_abs ?_) | (with_reducible refine cd_int ?_) | (with_reducible refine cd_max2 ?_) | (with_reducible refine cd_min2 ?_) | (with_reducible refine cd_lenL ?_) | (with_reducible refine cd_lenT ?_)
  | (with_reducible refine And.intro (fun hT => ?_) (fun hT => ?_))
  | ((with_reducible refine Exists.intro ?wc (And.intro ?we ?_)); (case we => exact rfl))
  | ((with_reducible show ∃ (_ : Int) (_ : Nat) (_ : List D), _); refine ⟨_, _, _, rfl, rfl, rfl, ?_⟩)
  | ((with_reducible refine And.intro ?we ?_); (case we => first | exact rfl | exact trivial | exact len_ok rfl | exact ⟨_, rfl⟩ | exact ⟨_, _, rfl⟩ | exact ⟨_, _, rfl, rfl⟩ | exact ⟨_, _, _, rfl⟩ | exact ⟨_, rfl, by assumption⟩ | exact ⟨_, by assumption, rfl⟩ | assumption)))
local macro_rules | `(tactic| walk_at "wp") => `(tactic| repeat' (first | walk_at "wp0" | fail))

local macro_rules | `(tactic| walk_at "sp0") => `(tactic| first
  | ((with_reducible refine And.intro (fun hT => ?_) (fun hT => ?_)) <;> (first | (exact absurd (show false = true from hT) Bool.false_ne_true) | (exact absurd (show true = false from hT) tnf) | skip))
  | (with_reducible refine we_isi kit_dic ?_)
  | walk_at "wp0")
local macro_rules | `(tactic| walk_at "sp") => `(tactic| repeat' (first | walk_at "sp0" | fail))
theorem get_put {ps : List (Str × D)} {x z : Str} {d : D} (h : (getP (putS ps x d) z).isSome = true) : z = x ∨ (getP ps z).isSome = true := by
  have e := val_kv (x := z) (putS ps x d)
  rw [← put_kv, valV_put, val_kv] at e
  by_cases hz : z = x
  · exact .inl hz
  · rw [if_neg (fun q => hz (by cases q; rfl))] at e
    have e2 := congrArg Option.isSome e
    rw [Option.isSome_map, Option.isSome_map, h] at e2
    exact .inr e2
theorem put_len {ps : List (Str × D)} {x : Str} {d : D} : (putS ps x d).length ≤ ps.length + 1 := by
  unfold putS
  split
  · rw [List.length_map]; omega
  · simp
theorem one_word {cs : List (Str × Str)} (nw : (cs.map (·.2)).Nodup) {a b z : Str} (ha : (a, z) ∈ cs) (hb : (b, z) ∈ cs) : a = b := by
  induction cs with
  | nil => cases ha
  | cons p r ih =>
    rw [List.map_cons, List.nodup_cons] at nw
    rcases List.mem_cons.mp ha with h1 | h1
    · rcases List.mem_cons.mp hb with h2 | h2
      · exact congrArg Prod.fst (h1.trans h2.symm)
      · exact absurd (by rw [show p.2 = z from (congrArg Prod.snd h1).symm]; exact (List.mem_map_of_mem (f := fun p : Str × Str => p.2) h2 : (b, z).2 ∈ _)) nw.1
    · rcases List.mem_cons.mp hb with h2 | h2
      · exact absurd (by rw [show p.2 = z from (congrArg Prod.snd h2).symm]; exact (List.mem_map_of_mem (f := fun p : Str × Str => p.2) h1 : (a, z).2 ∈ _)) nw.1
      · exact ih nw.2 h1 h2
section
variable {P : Program} {w : World} {K : Fg} {mg : Str → Option Value} {base : Heap}
abbrev codDom (ds : List D) : Prop := ∃ cs, ds = [wd cs] ∧ CodeP cs
theorem ok_wrong (T : Tx K mg) : FnG P w K mg base 3 T.f_wrong_letter T.d_wrong_letter ["code"] (SpF K (pur 1 codDom fun _ => .none)) := by
  have G_is_word := ok_is_word (P := P) (w := w) (base := base) T
  refine fg_pur T.F_wrong_letter sc_wrong_letter fun cdv A outer s H E hr hg => ⟨_, (pss_cons (ps_set (i := 1) sc_wrong_letter.nd rfl (Or.inl rfl) pe_dnewK) (pss_cons (ps_for PassesOwn.never rfl (pi_list (pe_callB (call_sortD rfl) (by rfl) T.n_sorted (by decide +kernel) (pa_cons (pv 0) pa_nil))) (pg_name (i := 2) sc_wrong_letter.nd rfl (Or.inl rfl)) (pss_cons (ps_set (i := 3) sc_wrong_letter.nd rfl (Or.inl rfl) (pe_dget (hu_of hr) (pv 0) (pv 2) (fun _ _ => rfl))) (pss_cons (ps_if (PW.pt (pw_or (pt_not (pt_truth (pg_call G_is_word (hr.mono (by decide)) hg rfl T.m_is_word T.F_is_word.kp T.b_is_word (pa_cons (pv 3) pa_nil)) (by intro _; rfl))) (pw_or1 (pt_cmp (pc_din (hu_of hr) (pv 3) (pv 1)) (by rfl))))) (pss_one (ps_ret (pv 2))) pss_nil) (pss_one (ps_dput (hu_of hr) (pv 1) (pv 3) pe_bl (by rfl)))))) (pss_one (ps_ret pe_non)))), fun ds hl hd => ?_⟩
  try simp only [nox_K, cxo_K]
  obtain ⟨cs, rfl, hc⟩ := hd
  have hlo := hc.lo
  have hhi := hc.hi
  have big := lt_ok (n := 5001) rfl
  refine wb_seq (wb_asgTD ?_)
  refine wb_seq (wb_forL ?_)
  refine we_wl (wl_cb (wd_cons (we_var rfl (wd_nil (cl_sortD (by rw [List.length_map]; omega) fun ys hp hs => ?_)))))
  refine ⟨_, rfl, ?_⟩
  rw [keys_wps] at hp
  refine turns_inv (fun j δ' M' => ∃ (ps : List (Str × D)) (c2 c3 : Option C), δ' = [some (.dat (wd cs)), some (.own 0), c2, c3] ∧ M' = [TD ps] ∧ lfP ps ∧ ps.length ≤ j ∧ ∀ z, (getP ps z).isSome = true → ∃ l ∈ ys.take j, (l, z) ∈ cs) ⟨[], none, none, rfl, rfl, rfl, Nat.le_refl _, fun z h => nomatch h⟩ ?_ ?_
  · rintro j dd _ _ hj ⟨ps, c2, c3, rfl, rfl, lf, hpl, hps⟩
    rw [List.getElem?_map] at hj
    obtain ⟨l, hjl, rfl⟩ := Option.map_eq_some_iff.mp hj
    have hjlt : j < 36 := by
      have h1 := (List.getElem?_eq_some_iff.mp hjl).1
      have h2 := hp.length_eq
      rw [List.length_map] at h2
      omega
    obtain ⟨⟨l', z⟩, hm, rfl⟩ := List.mem_map.mp (hp.mem_iff.mp (List.mem_of_getElem? hjl))
    obtain ⟨w1, w2, w3⟩ := hc.wo _ hm
    have hg1 := get_of hc.nd hm
    have hno : (getP ps z).isSome = false := by
      cases h : (getP ps z).isSome with
      | false => rfl
      | true =>
        obtain ⟨l2, h1, h2⟩ := hps z h
        have e := one_word hc.nw h2 hm
        subst e
        obtain ⟨i, hi, e⟩ := List.getElem_of_mem h1
        rw [List.length_take] at hi
        rw [List.getElem_take] at e
        have nd : ys.Nodup := hp.nodup_iff.mpr hc.nd
        obtain ⟨hj2, e2⟩ := List.getElem?_eq_some_iff.mp hjl
        have := (List.getElem_inj nd).mp (e.trans e2.symm)
        omega
    refine wg_name ?_
    refine wb_seq (wb_asg (we_dgetD rfl (we_var rfl ⟨_, _, rfl, hg1, ?_⟩)))
    walk_at "sp"
    refine ⟨⟨z, rfl, w1, w2, w3⟩, ?_⟩
    walk_at "sp"
    refine wt_B (we_dinO rfl ?_)
    walk_at "sp"
    refine ⟨_, _, rfl, rfl, lf, ?_⟩
    rw [hno]
    walk_at "sp"
    refine wb_tput rfl ?_
    walk_at "sp"
    refine ⟨_, _, rfl, rfl, rfl, lf, by omega, ?_⟩
    refine ⟨_, _, _, rfl, rfl, put_lf lf rfl, Nat.le_trans put_len (Nat.succ_le_succ hpl), fun x hx => ?_⟩
    rcases get_put hx with rfl | hx
    · refine ⟨l', List.mem_of_getElem? (i := j) ?_, hm⟩
      rw [List.getElem?_take, if_pos (by omega)]
      exact hjl
    · obtain ⟨l2, h1, h2⟩ := hps x hx
      exact ⟨l2, List.mem_of_mem_take (i := j) (by rw [List.take_take]; rw [show min j (j + 1) = j by omega]; exact h1), h2⟩
  · rintro _ _ ⟨ps, c2, c3, rfl, rfl, _⟩
    walk_at "sp"
    rfl
theorem ok_check (T : Tx K mg) : FnG P w K mg base 4 T.f_check_code T.d_check_code ["value"] (SpF K (pur 1 codDom fun _ => .none)) := by
  have G_has_letters := ok_has_letters (P := P) (w := w) (base := base) T
  have G_wrong_letter := ok_wrong (P := P) (w := w) (base := base) T
  refine fg_pur T.F_check_code sc_check_code fun cdv A outer s H E hr hg => ⟨_, (pss_cons (ps_if (pt_not (pt_truth (pg_call G_has_letters (hr.mono (by decide)) hg rfl T.m_has_letters T.F_has_letters.kp T.b_has_letters (pa_cons (pv 0) pa_nil)) (by intro _; rfl))) (pss_one ps_never) pss_nil) (pss_cons (ps_set (i := 1) sc_check_code.nd rfl (Or.inl rfl) (pg_call G_wrong_letter (hr.mono (by decide)) hg rfl T.m_wrong_letter T.F_wrong_letter.kp T.b_wrong_letter (pa_cons (pv 0) pa_nil))) (pss_one (ps_if (pt_cmpR op_notN (pv 1) pe_non (nomark _)) (pss_one ps_never) pss_nil)))), fun ds hl hd => ?_⟩
  try simp only [nox_K, cxo_K]
  obtain ⟨cs, rfl, hc⟩ := hd
  walk_at "sp"
  exact trivial
def folS : FL := fun ds R => ∃ cs z, ds = [wd cs, .str z] ∧ CodeP cs ∧ SgT z ∧ z.length ≤ 5000 ∧ ∀ ys, ys.Perm (foll cs z) → sortedS ys = true → R (ys.map PyData.str)
def fo (cs : List (Str × Str)) (z : Str) (d : D) : Option D := match d with
  | .str x => match getP (wps cs) x with
    | some (.str y) => if Txt.startswith y z = true then some (.str x) else none
    | _ => none
  | _ => none
theorem fo_at {cs : List (Str × Str)} {z : Str} (nd : (cs.map (·.1)).Nodup) {p : Str × Str} (hp : p ∈ cs) : fo cs z (PyData.str p.1) = if Txt.startswith p.2 z = true then some (PyData.str p.1) else none := by
  show (match getP (wps cs) p.1 with
    | some (.str y) => if Txt.startswith y z = true then some (PyData.str p.1) else none
    | _ => none) = _
  rw [get_of nd hp]
theorem fo_all {cs : List (Str × Str)} {z : Str} (nd : (cs.map (·.1)).Nodup) : ((wps cs).map fun p => PyData.str p.1).filterMap (fo cs z) = (foll cs z).map PyData.str := by
  have h : ∀ qs : List (Str × Str), (∀ q ∈ qs, q ∈ cs) → ((wps qs).map fun p => PyData.str p.1).filterMap (fo cs z) = (foll qs z).map .str := by
    intro qs
    induction qs with
    | nil => intro _; rfl
    | cons q r ih =>
      intro hq
      have h1 := fo_at (z := z) nd (hq q (by simp))
      have h2 := ih fun x hx => hq x (by simp [hx])
      unfold foll at h2 ⊢
      show (PyData.str q.1 :: ((wps r).map fun p => PyData.str p.1)).filterMap (fo cs z) = _
      rw [List.filterMap_cons, h1, List.filter_cons]
      by_cases hb : Txt.startswith q.2 z = true
      · rw [if_pos hb, if_pos hb]
        show PyData.str q.1 :: _ = _
        rw [h2]
        rfl
      · rw [if_neg hb, if_neg hb]
        exact h2
  exact h cs fun _ h => h
theorem foll_len (cs : List (Str × Str)) (z : Str) : (foll cs z).length ≤ cs.length := by
  unfold foll
  rw [List.length_map]
  exact List.length_filter_le _ _
end
end K29

set_option Elab.async false
set_option linter.all false
set_option maxRecDepth 100000
set_option maxHeartbeats 4000000
namespace K29
open PySem L2 Evl PySem.Spec PyProof.Rows PW
local macro_rules | `(tactic| walk_at "wp0") => `(tactic| first
  | (with_reducible refine wb_seq ?_) | (with_reducible refine wb_asg ?_) | (with_reducible refine wg_name ?_) | (with_reducible refine wb_ret ?_) | (with_reducible refine vb_if ?_) | (with_reducible refine wb_next ?_) | (with_reducible refine wb_drop ?_) | (with_reducible refine wb_retN ?_)
  | ((with_reducible show WG _ (gTup _ _ _) _ _ _ _); refine wg_tup rfl ?_) | (with_reducible refine wgs_cons ?_) | ((with_reducible show WGs _ (gCons _ _) _ _ _ _); refine wgs_cons ?_) | (with_reducible refine wgs_nil ?_) | ((with_reducible show WGs _ gNil _ _ _ _); refine wgs_nil ?_)
  | ((with_reducible show WE _ (tVar _) _ _ _); refine we_var rfl ?_)
  | (with_reducible refine we_int ?_) | (with_reducible refine we_str ?_) | (with_reducible refine we_bl ?_) | (with_reducible refine we_non ?_)
  | (with_reducible refine we_isi kit_int ?_) | (with_reducible refine we_isi kit_bool ?_) | (with_reducible refine we_isi kit_str ?_) | (with_reducible refine we_isi kit_tup ?_) | (with_reducible refine we_isi kit_lst ?_)
  | ((with_reducible show WE _ (tOp (rIx _) (tVar _) (tC _)) _ _ _); refine we_ixO rfl rfl rfl ?_)
  | ((with_reducible show WE _ (tOp (rCatS _) _ _) _ _ _); refine we_wl (wl_op ?_)) | ((with_reducible refine ol_cat ?s1 ?_); (case s1 => exact len_ok rfl)) | ((with_reducible refine od_catA ?s1 ?_); (case s1 => exact len_ok rfl))
  | (with_reducible refine we_op ?_) | (with_reducible refine we_tup ?_) | (with_reducible refine we_lst ?_) | (with_reducible refine we_pur ?_) | (with_reducible refine we_cb ?_) | (with_reducible refine we_slA ?_)
  | (with_reducible refine we_wl (wl_slL ?_)) | (with_reducible refine wo_none ?_) | (with_reducible refine wo_some ?_)
  | (with_reducible refine wd_cons ?_) | (with_reducible refine wd_nil ?_)
  | (with_reducible refine ve_and ?_) | (with_reducible refine ve_or ?_) | (with_reducible refine ve_not ?_) | (with_reducible refine ve_if ?_)
  | (with_reducible refine vt_and ?_) | (with_reducible refine vt_or ?_) | (with_reducible refine wt_not ?_) | (with_reducible refine wt_testB ?_) | (with_reducible refine wt_truB ?_)
  | (with_reducible refine od_int0 ?_) | ((with_reducible refine od_int ?s1 ?_); (case s1 => first | assumption | decide | exact ⟨by decide, by decide⟩)) | ((with_reducible show OD _ (rIx _) (.list _) (.int _) _); refine od_ix_l rfl ?_) | ((with_reducible show OD _ (rIx _) (.tuple _) (.int _) _); refine od_ix_t rfl ?_) | ((with_reducible show WG _ (gSub (tVar _) _ _) _ _ _ _); refine wg_sub rfl ?_) | (with_reducible refine od_bl0 ?_)
  | ((with_reducible show WE _ (tC _) _ _ _); refine we_con (d := ?wd) ?wc0 ?_; (case wc0 => assumption))
  | (with_reducible refine OD.or1 (od_eqS ?_)) | (with_reducible refine OD.or1 (od_neS ?_)) | (with_reducible refine od_isN ?_) | (with_reducible refine od_notN ?_)
  | ((with_reducible refine OD.or2 (od_eqD ?s1 ?s2 ?_)); (case s1 => first | assumption | exact rfl | decide +kernel); (case s2 => first | assumption | exact rfl | decide +kernel)) | ((with_reducible refine OD.or2 (od_neD ?s1 ?s2 ?_)); (case s1 => first | assumption | exact rfl | decide +kernel); (case s2 => first | assumption | exact rfl | decide +kernel))
  | ((with_reducible refine od_inT ?s1 ?s2 ?_); (case s1 => first | assumption | exact rfl | decide +kernel); (case s2 => first | assumption | exact rfl | decide +kernel)) | ((with_reducible refine od_notInT ?s1 ?s2 ?_); (case s1 => first | assumption | exact rfl | decide +kernel); (case s2 => first | assumption | exact rfl | decide +kernel))
  | (with_reducible refine cd_abs ?_) | (with_reducible refine cd_int ?_) | (with_reducible refine cd_max2 ?_) | (with_reducible refine cd_min2 ?_) | (with_reducible refine cd_lenL ?_) | (with_reducible refine cd_lenT ?_)
  | (with_reducible refine And.intro (fun hT => ?_) (fun hT => ?_))
  | ((with_reducible refine Exists.intro ?wc (And.intro ?we ?_)); (case we => exact rfl))
  | ((with_reducible show ∃ (_ : Int) (_ : Nat) (_ : List D), _); refine ⟨_, _, _, rfl, rfl, rfl, ?_⟩)
  | ((with_reducible refine And.intro ?we ?_); (case we => first | exact rfl | exact trivial | exact len_ok rfl | exact ⟨_, rfl⟩ | exact ⟨_, _, rfl⟩ | exact ⟨_, _, rfl, rfl⟩ | exact ⟨_, _, _, rfl⟩ | exact ⟨_, rfl, by assumption⟩ | exact ⟨_, by assumption, rfl⟩ | assumption)))
local macro_rules | `(tactic| walk_at "wp") => `(tactic| repeat' (first | walk_at "wp0" | fail))

section
variable {P : Program} {w : World} {K : Fg} {mg : Str → Option Value} {base : Heap}
/-- a reel: three ints that are not negative, the second one small -/
structure Reel (ds : List D) : Prop where
  ex : ∃ a b c : Int, ds = [.int a, .int b, .int c] ∧ 0 ≤ a ∧ 0 ≤ b ∧ b < 2 ^ 200 ∧ 0 ≤ c ∧ c < 2 ^ 60
/-- _law_dip: a number below many; the reel stays a reel (its count of draws may have grown by one) -/
def spinS : FS := fun cs M R => ∃ a b c many : Int, cs = [.own 0, .dat (.int many)] ∧ M = [.lst [.int a, .int b, .int c]] ∧ 0 ≤ a ∧ 0 ≤ b ∧ b < 2 ^ 200 ∧ 0 ≤ c ∧ c < 2 ^ 60 ∧ 0 < many ∧ many < 2 ^ 400 ∧
  ∀ z a' c' : Int, 0 ≤ z → z < many → 0 ≤ a' → c ≤ c' → c' ≤ c + 1 → R (.int z) [.lst [.int a', .int b, .int c']]
theorem bits_le {i : Int} {n : Nat} (h : i.natAbs < 2 ^ n) (h0 : 0 < n) : Builtin.Int.intBits i ≤ n := by
  have := PySem.Flt.log2_lt_of h0 h
  unfold Builtin.Int.intBits
  split <;> omega
theorem ok_spin (T : Tx K mg) : FnG P w K mg base 1 T.f_law_dip T.d_law_dip ["fount", "many"] (SpF K spinS) := by
  refine fgok T.F_law_dip sc_law_dip (fun cs M R h => ?_) fun cdv A outer s H E hr hg => ⟨_, (pss_cons (ps_if (pt_cmpR op_gt (pe_ix ix_seq (pv 0) pe_int (fun _ _ => rfl)) pe_int (nomark _)) (pss_cons (ps_set (i := 3) sc_law_dip.nd rfl (Or.inl rfl) (pe_op op_mod (pe_callTy call_int1 (by rfl) T.n_int (by decide +kernel) (pa_cons (pe_ix ix_seq (pv 0) pe_int (fun _ _ => rfl)) pa_nil)) (pv 1))) (pss_cons (ps_asg (pe_op op_fdivW (pe_ix ix_seq (pv 0) pe_int (fun _ _ => rfl)) (pv 1)) (pg_sub (pv 0) pe_int set_list)) (pss_one (ps_ret (pv 3))))) pss_nil) (pss_cons (ps_asg (pe_op op_add (pe_ix ix_seq (pv 0) pe_int (fun _ _ => rfl)) pe_int) (pg_sub (pv 0) pe_int set_list)) (pss_cons (ps_set (i := 2) sc_law_dip.nd rfl (Or.inl rfl) (pe_op op_mod (pe_callTy call_int1 (by rfl) T.n_int (by decide +kernel) (pa_cons (pe_op op_powW (pe_op op_add (pe_ix ix_seq (pv 0) pe_int (fun _ _ => rfl)) (pe_op op_mulW pe_int (pe_ix ix_seq (pv 0) pe_int (fun _ _ => rfl)))) pe_int) pa_nil)) (pe_op op_add (pe_op op_powW pe_int pe_int) pe_int))) (pss_cons (ps_set (i := 2) sc_law_dip.nd rfl (Or.inl rfl) (pe_op op_mod (pe_callTy call_int1 (by rfl) T.n_int (by decide +kernel) (pa_cons (pe_op op_powW (pe_op op_add (pv 2) (pe_op op_mulW pe_int (pe_ix ix_seq (pv 0) pe_int (fun _ _ => rfl)))) pe_int) pa_nil)) (pe_op op_add (pe_op op_powW pe_int pe_int) pe_int))) (pss_one (ps_ret (pe_op op_mod (pe_callTy call_int1 (by rfl) T.n_int (by decide +kernel) (pa_cons (pe_op op_fdivW (pv 2) (pe_op op_powW pe_int pe_int)) pa_nil)) (pv 1)))))))), fun cs M R h => ?_⟩
  · obtain ⟨a, b, c, many, rfl, _⟩ := h
    rfl
  try simp only [nox_K, cxo_K]
  obtain ⟨a, b, c, many, rfl, rfl, ha, hb, hb2, hc, hc2, hm, hm2, hR⟩ := h
  have hp1 : (0 : Int) ≤ 3 ∧ (Builtin.Int.intBits (b + 49979687 * (c + 1)) : Int) * 3 ≤ 2 ^ 27 := ⟨by decide, by
    have := bits_le (i := b + 49979687 * (c + 1)) (n := 202) (by omega) (by decide)
    omega⟩
  have hw1 : CMulW 49979687 (c + 1) := wide_mul (a := 26) (b := 61) (by decide) (by omega) (by decide) (by decide) (by decide)
  have hd1 : CDivW a many := wide_div hm (b := 400) (by omega) (by decide) (by decide)
  have hw2 : CMulW 67867967 (c + 1) := wide_mul (a := 27) (b := 61) (by decide) (by omega) (by decide) (by decide) (by decide)
  have hx0 : 0 ≤ ((b + 49979687 * (c + 1)) ^ Int.toNat 3 % ((10 : Int) ^ Int.toNat 42 + 63)) ∧ ((b + 49979687 * (c + 1)) ^ Int.toNat 3 % ((10 : Int) ^ Int.toNat 42 + 63)) < 2 ^ 145 := by
    exact ⟨Int.emod_nonneg _ (by decide), Int.lt_trans (Int.emod_lt_of_pos _ (by decide)) (by decide)⟩
  have hp2 : (0 : Int) ≤ 3 ∧ (Builtin.Int.intBits (((b + 49979687 * (c + 1)) ^ Int.toNat 3 % ((10 : Int) ^ Int.toNat 42 + 63)) + 67867967 * (c + 1)) : Int) * 3 ≤ 2 ^ 27 := ⟨by decide, by
    generalize ((b + 49979687 * (c + 1)) ^ Int.toNat 3 % ((10 : Int) ^ Int.toNat 42 + 63)) = x at hx0 ⊢
    have := bits_le (i := x + 67867967 * (c + 1)) (n := 202) (by omega) (by decide)
    omega⟩
  refine wb_seq (vb_if (wt_look ?_))
  walk_at "wp"
  · rename_i hT
    exact hR (a % many) (a / many) c (Int.emod_nonneg _ (by omega)) (Int.emod_lt_of_pos _ hm) (Int.ediv_nonneg ha (by omega)) (Int.le_refl _) (by omega)
  walk_at "wp"
  exact hR _ a (c + 1) (Int.emod_nonneg _ (by omega)) (Int.emod_lt_of_pos _ hm) ha (by omega) (Int.le_refl _)
end
end K29

set_option Elab.async false
set_option linter.all false
set_option maxRecDepth 100000
set_option maxHeartbeats 4000000
namespace K29
open PySem L2 Evl PySem.Spec PyProof.Rows PW
local macro_rules | `(tactic| walk_at "wp0") => `(tactic| first
  | (with_reducible refine wb_seq ?_) | (with_reducible refine wb_asg ?_) | (with_reducible refine wg_name ?_) | (with_reducible refine wb_ret ?_) | (with_reducible refine vb_if ?_) | (with_reducible refine wb_next ?_) | (with_reducible refine wb_drop ?_) | (with_reducible refine wb_retN ?_)
  | ((with_reducible show WG _ (gTup _ _ _) _ _ _ _); refine wg_tup rfl ?_) | (with_reducible refine wgs_cons ?_) | ((with_reducible show WGs _ (gCons _ _) _ _ _ _); refine wgs_cons ?_) | (with_reducible refine wgs_nil ?_) | ((with_reducible show WGs _ gNil _ _ _ _); refine wgs_nil ?_)
  | ((with_reducible show WE _ (tVar _) _ _ _); refine we_var rfl ?_)
  | (with_reducible refine we_int ?_) | (with_reducible refine we_str ?_) | (with_reducible refine we_bl ?_) | (with_reducible refine we_non ?_)
  | (with_reducible refine we_isi kit_int ?_) | (with_reducible refine we_isi kit_bool ?_) | (with_reducible refine we_isi kit_str ?_) | (with_reducible refine we_isi kit_tup ?_) | (with_reducible refine we_isi kit_lst ?_)
  | ((with_reducible show WE _ (tOp (rIx _) (tVar _) (tC _)) _ _ _); refine we_ixO rfl rfl rfl ?_)
  | ((with_reducible show WE _ (tOp (rCatS _) _ _) _ _ _); refine we_wl (wl_op ?_)) | ((with_reducible refine ol_cat ?s1 ?_); (case s1 => exact len_ok rfl)) | ((with_reducible refine od_catA ?s1 ?_); (case s1 => exact len_ok rfl))
  | (with_reducible refine we_op ?_) | (with_reducible refine we_tup ?_) | (with_reducible refine we_lst ?_) | (with_reducible refine we_pur ?_) | (with_reducible refine we_cb ?_) | (with_reducible refine we_slA ?_)
  | (with_reducible refine we_wl (wl_slL ?_)) | (with_reducible refine wo_none ?_) | (with_reducible refine wo_some ?_)
  | (with_reducible refine wd_cons ?_) | (with_reducible refine wd_nil ?_)
  | (with_reducible refine ve_and ?_) | (with_reducible refine ve_or ?_) | (with_reducible refine ve_not ?_) | (with_reducible refine ve_if ?_)
  | (with_reducible refine vt_and ?_) | (with_reducible refine vt_or ?_) | (with_reducible refine wt_not ?_) | (with_reducible refine wt_testB ?_) | (with_reducible refine wt_truB ?_)
  | (with_reducible refine od_int0 ?_) | ((with_reducible refine od_int ?s1 ?_); (case s1 => first | assumption | decide | exact ⟨by decide, by decide⟩)) | ((with_reducible show OD _ (rIx _) (.list _) (.int _) _); refine od_ix_l rfl ?_) | ((with_reducible show OD _ (rIx _) (.tuple _) (.int _) _); refine od_ix_t rfl ?_) | ((with_reducible show WG _ (gSub (tVar _) _ _) _ _ _ _); refine wg_sub rfl ?_) | (with_reducible refine od_bl0 ?_)
  | ((with_reducible show WE _ (tC _) _ _ _); refine we_con (d := ?wd) ?wc0 ?_; (case wc0 => assumption))
  | (with_reducible refine OD.or1 (od_eqS ?_)) | (with_reducible refine OD.or1 (od_neS ?_)) | (with_reducible refine od_isN ?_) | (with_reducible refine od_notN ?_)
  | ((with_reducible refine OD.or2 (od_eqD ?s1 ?s2 ?_)); (case s1 => first | assumption | exact rfl | decide +kernel); (case s2 => first | assumption | exact rfl | decide +kernel)) | ((with_reducible refine OD.or2 (od_neD ?s1 ?s2 ?_)); (case s1 => first | assumption | exact rfl | decide +kernel); (case s2 => first | assumption | exact rfl | decide +kernel))
  | ((with_reducible refine od_inT ?s1 ?s2 ?_); (case s1 => first | assumption | exact rfl | decide +kernel); (case s2 => first | assumption | exact rfl | decide +kernel)) | ((with_reducible refine od_notInT ?s1 ?s2 ?_); (case s1 => first | assumption | exact rfl | decide +kernel); (case s2 => first | assumption | exact rfl | decide +kernel))
  | (with_reducible refine cd_abs ?_) | (with_reducible refine cd_int ?_) | (with_reducible refine cd_max2 ?_) | (with_reducible refine cd_min2 ?_) | (with_reducible refine cd_lenL ?_) | (with_reducible refine cd_lenT ?_)
  | (with_reducible refine And.intro (fun hT => ?_) (fun hT => ?_))
  | ((with_reducible refine Exists.intro ?wc (And.intro ?we ?_)); (case we => exact rfl))
  | ((with_reducible show ∃ (_ : Int) (_ : Nat) (_ : List D), _); refine ⟨_, _, _, rfl, rfl, rfl, ?_⟩)
  | ((with_reducible refine And.intro ?we ?_); (case we => first | exact rfl | exact trivial | exact len_ok rfl | exact ⟨_, rfl⟩ | exact ⟨_, _, rfl⟩ | exact ⟨_, _, rfl, rfl⟩ | exact ⟨_, _, _, rfl⟩ | exact ⟨_, rfl, by assumption⟩ | exact ⟨_, by assumption, rfl⟩ | assumption)))
local macro_rules | `(tactic| walk_at "wp") => `(tactic| repeat' (first | walk_at "wp0" | fail))

section
variable {P : Program} {w : World} {K : Fg} {mg : Str → Option Value} {base : Heap}
def reelS : FL := fun ds R => ∃ (ns : List Int) (i : Int), ds = [.list (ns.map .int), .int i] ∧ 0 ≤ i ∧ i < 1000 ∧ ∀ a b, 0 ≤ a → 0 ≤ b → b < 2 ^ 200 → R [.int a, .int b, .int 0]
theorem ok_reel (T : Tx K mg) : FnG P w K mg base 1 T.f_law_fount T.d_law_fount ["script", "k"] (SpL K reelS) := by
  refine fg_lst T.F_law_fount sc_law_fount (fun ds R h => ?_) fun cdv A outer s H E hr hg => ⟨_, (pss_cons (ps_set (i := 2) sc_law_fount.nd rfl (Or.inl rfl) (pe_ifExp (pt_cmpR op_lt (pv 1) (pe_callB call_lenD (by rfl) T.n_len (by decide +kernel) (pa_cons (pv 0) pa_nil)) (nomark _)) (pe_callB call_abs (by rfl) T.n_abs (by decide +kernel) (pa_cons (pe_callTy call_int1 (by rfl) T.n_int (by decide +kernel) (pa_cons (pe_ix ix_seq (pv 0) (pv 1) (fun _ _ => rfl)) pa_nil)) pa_nil)) pe_int)) (pss_one (ps_ret (pe_lst (pa_cons (pe_callB (call_max2 rfl) (by rfl) T.n_max (by decide +kernel) (pa_cons pe_int (pa_cons (pe_op op_sub (pv 2) (pe_op op_powW pe_int pe_int)) pa_nil))) (pa_cons (pe_op op_add (pe_op op_add (pe_op op_mulW (pe_op op_mod (pe_callTy call_int1 (by rfl) T.n_int (by decide +kernel) (pa_cons (pv 2) pa_nil)) (pe_op op_add (pe_op op_powW pe_int pe_int) pe_int)) pe_int) (pe_op op_mulW pe_int (pv 1))) pe_int) (pa_cons pe_int pa_nil))))))), fun ds R h => ?_⟩
  · obtain ⟨ns, i, rfl, _⟩ := h
    rfl
  try simp only [nox_K, cxo_K]
  obtain ⟨ns, i, rfl, hi0, hi1, hR⟩ := h
  have hw : CMulW 31 i := wide_mul (a := 5) (b := 61) (by decide) (by omega) (by decide) (by decide) (by decide)
  have hm : ∀ c : Int, CMulW (c % (10 ^ Int.toNat 39 + 61)) 64 := fun c => by
    have h1 := Int.emod_nonneg c (b := 10 ^ Int.toNat 39 + 61) (by decide)
    have h2 : c % (10 ^ Int.toNat 39 + 61) < 2 ^ 130 := Int.lt_trans (Int.emod_lt_of_pos c (b := 10 ^ Int.toNat 39 + 61) (by decide)) (by decide)
    exact wide_mul (a := 130) (b := 7) (by omega) (by decide) (by decide) (by decide) (by decide)
  have fin : ∀ c : Int, R [.int (if c - 10 ^ Int.toNat 18 > (0 : Int) then c - 10 ^ Int.toNat 18 else 0), .int (c % (10 ^ Int.toNat 39 + 61) * 64 + 31 * i + 17), .int 0] := fun c => by
    have h1 := Int.emod_nonneg c (b := 10 ^ Int.toNat 39 + 61) (by decide)
    have h2 : c % (10 ^ Int.toNat 39 + 61) < 2 ^ 130 := Int.lt_trans (Int.emod_lt_of_pos c (b := 10 ^ Int.toNat 39 + 61) (by decide)) (by decide)
    refine hR _ _ ?_ ?_ ?_
    · generalize c - 10 ^ Int.toNat 18 = z
      split <;> omega
    · omega
    · omega
  refine wbl_seq ?_
  walk_at "wp"
  · rename_i hT
    have hi : i < (ns.map PyData.int).length := by simpa using hT
    have e : atI (ns.map PyData.int) i = some (.int (ns.getD i.toNat 0)) := by
      unfold atI ixN
      have hn : i.toNat < ns.length := by simp at hi; omega
      rw [if_pos hi0, if_pos hi]
      simp [hn]
    refine od_ix_l e ?_
    walk_at "wp"
    refine wbl_ret (wl_lst ?_)
    walk_at "wp"
    refine od_int (hm _) ?_
    walk_at "wp"
    exact fin _
  · refine wbl_ret (wl_lst ?_)
    walk_at "wp"
    refine od_int (hm _) ?_
    walk_at "wp"
    exact fin _
end
end K29

set_option Elab.async false
set_option linter.all false
set_option maxRecDepth 100000
set_option maxHeartbeats 2000000
set_option exponentiation.threshold 500
namespace K29
open PySem L2 Evl PySem.Spec PyProof.Rows PW TL
local macro_rules | `(tactic| walk_at "wp0") => `(tactic| first
  | (with_reducible refine wb_seq ?_) | (with_reducible refine wb_asg ?_) | (with_reducible refine wg_name ?_) | (with_reducible refine wb_ret ?_) | (with_reducible refine vb_if ?_) | (with_reducible refine wb_next ?_) | (with_reducible refine wb_drop ?_) | (with_reducible refine wb_retN ?_)
  | ((with_reducible show WG _ (gTup _ _ _) _ _ _ _); refine wg_tup rfl ?_) | (with_reducible refine wgs_cons ?_) | ((with_reducible show WGs _ (gCons _ _) _ _ _ _); refine wgs_cons ?_) | (with_reducible refine wgs_nil ?_) | ((with_reducible show WGs _ gNil _ _ _ _); refine wgs_nil ?_)
  | ((with_reducible show WE _ (tVar _) _ _ _); refine we_var rfl ?_)
  | (with_reducible refine we_int ?_) | (with_reducible refine we_str ?_) | (with_reducible refine we_bl ?_) | (with_reducible refine we_non ?_)
  | (with_reducible refine we_isi kit_int ?_) | (with_reducible refine we_isi kit_bool ?_) | (with_reducible refine we_isi kit_str ?_) | (with_reducible refine we_isi kit_tup ?_) | (with_reducible refine we_isi kit_lst ?_)
  | ((with_reducible show WE _ (tOp (rIx _) (tVar _) (tC _)) _ _ _); refine we_ixO rfl rfl rfl ?_)
  | ((with_reducible show WE _ (tOp (rCatS _) _ _) _ _ _); refine we_wl (wl_op ?_)) | ((with_reducible refine ol_cat ?s1 ?_); (case s1 => exact len_ok rfl)) | ((with_reducible refine od_catA ?s1 ?_); (case s1 => exact len_ok rfl))
  | (with_reducible refine we_op ?_) | (with_reducible refine we_tup ?_) | (with_reducible refine we_lst ?_) | (with_reducible refine we_pur ?_) | (with_reducible refine we_cb ?_) | (with_reducible refine we_slA ?_)
  | (with_reducible refine we_wl (wl_slL ?_)) | (with_reducible refine wo_none ?_) | (with_reducible refine wo_some ?_)
  | (with_reducible refine wd_cons ?_) | (with_reducible refine wd_nil ?_)
  | (with_reducible refine ve_and ?_) | (with_reducible refine ve_or ?_) | (with_reducible refine ve_not ?_) | (with_reducible refine ve_if ?_)
  | (with_reducible refine vt_and ?_) | (with_reducible refine vt_or ?_) | (with_reducible refine wt_not ?_) | (with_reducible refine wt_testB ?_) | (with_reducible refine wt_truB ?_)
  | (with_reducible refine od_int0 ?_) | ((with_reducible refine od_int ?s1 ?_); (case s1 => first | assumption | decide | exact ⟨by decide, by decide⟩)) | ((with_reducible show OD _ (rIx _) (.list _) (.int _) _); refine od_ix_l rfl ?_) | ((with_reducible show OD _ (rIx _) (.tuple _) (.int _) _); refine od_ix_t rfl ?_) | ((with_reducible show WG _ (gSub (tVar _) _ _) _ _ _ _); refine wg_sub rfl ?_) | (with_reducible refine od_bl0 ?_)
  | ((with_reducible show WE _ (tC _) _ _ _); refine we_con (d := ?wd) ?wc0 ?_; (case wc0 => assumption))
  | (with_reducible refine OD.or1 (od_eqS ?_)) | (with_reducible refine OD.or1 (od_neS ?_)) | (with_reducible refine od_isN ?_) | (with_reducible refine od_notN ?_)
  | ((with_reducible refine OD.or2 (od_eqD ?s1 ?s2 ?_)); (case s1 => first | assumption | exact rfl | decide +kernel); (case s2 => first | assumption | exact rfl | decide +kernel)) | ((with_reducible refine OD.or2 (od_neD ?s1 ?s2 ?_)); (case s1 => first | assumption | exact rfl | decide +kernel); (case s2 => first | assumption | exact rfl | decide +kernel))
  | ((with_reducible refine od_inT ?s1 ?s2 ?_); (case s1 => first | assumption | exact rfl | decide +kernel); (case s2 => first | assumption | exact rfl | decide +kernel)) | ((with_reducible refine od_notInT ?s1 ?s2 ?_); (case s1 => first | assumption | exact rfl | decide +kernel); (case s2 => first | assumption | exact rfl | decide +kernel))
  | (with_reducible refine cd_abs ?_) | (with_reducible refine cd_int ?_) | (with_reducible refine cd_max2 ?_) | (with_reducible refine cd_min2 ?_) | (with_reducible refine cd_lenL ?_) | (with_reducible refine cd_lenT ?_)
  | (with_reducible refine And.intro (fun hT => ?_) (fun hT => ?_))
  | ((with_reducible refine Exists.intro ?wc (And.intro ?we ?_)); (case we => exact rfl))
  | ((with_reducible show ∃ (_ : Int) (_ : Nat) (_ : List D), _); refine ⟨_, _, _, rfl, rfl, rfl, ?_⟩)
  | ((with_reducible refine And.intro ?we ?_); (case we => first | exact rfl | exact trivial | exact len_ok rfl | exact ⟨_, rfl⟩ | exact ⟨_, _, rfl⟩ | exact ⟨_, _, rfl, rfl⟩ | exact ⟨_, _, _, rfl⟩ | exact ⟨_, rfl, by assumption⟩ | exact ⟨_, by assumption, rfl⟩ | assumption)))
local macro_rules | `(tactic| walk_at "wp") => `(tactic| repeat' (first | walk_at "wp0" | fail))

/-! ### sorted letters are one list -/
def One (y : Str) : Prop := ∃ c, y = ⟨#[c]⟩
def hd (y : Str) : Nat := (tl y).headD 0
theorem lt_one (a b : Nat) : ltCps [a] [b] = decide (a < b) := by simp [ltCps]
theorem rising_pw : ∀ (ys : List Str) (x : Str), One x → (∀ y ∈ ys, One y) → risingS x ys = true → (x :: ys).Pairwise (fun a b => hd a ≤ hd b)
  | [], x, _, _, _ => by simp
  | y :: r, x, hx, hy, h => by
    have h' : (!ltCps y.cps.toList x.cps.toList && risingS y r) = true := h
    rw [Bool.and_eq_true] at h'
    have ih := rising_pw r y (hy y (by simp)) (fun z hz => hy z (by simp [hz])) h'.2
    obtain ⟨a, rfl⟩ := hx
    obtain ⟨b, rfl⟩ := hy y (by simp)
    have h1 : (!ltCps [b] [a]) = true := h'.1
    rw [lt_one] at h1
    have h2 : a ≤ b := by simpa using h1
    rw [List.pairwise_cons]
    refine ⟨fun z hz => ?_, ih⟩
    rcases List.mem_cons.mp hz with rfl | hz
    · exact h2
    · exact Nat.le_trans h2 ((List.pairwise_cons.mp ih).1 z hz)
theorem sorted_pw {ys : List Str} (hy : ∀ y ∈ ys, One y) (h : sortedS ys = true) : ys.Pairwise (fun a b => hd a ≤ hd b) := by
  cases ys with
  | nil => exact .nil
  | cons x r => exact rising_pw r x (hy x (by simp)) (fun z hz => hy z (by simp [hz])) h
theorem sorted_one {xs ys zs : List Str} (ho : ∀ y ∈ xs, One y) (hy : ys.Perm xs) (hz : zs.Perm xs) (sy : sortedS ys = true) (sz : sortedS zs = true) : ys = zs := by
  have oy : ∀ y ∈ ys, One y := fun y h => ho y (hy.mem_iff.mp h)
  have oz : ∀ y ∈ zs, One y := fun y h => ho y (hz.mem_iff.mp h)
  refine List.Perm.eq_of_pairwise (fun a b ha hb h1 h2 => ?_) (sorted_pw oy sy) (sorted_pw oz sz) (hy.trans hz.symm)
  obtain ⟨c, rfl⟩ := oy a ha
  obtain ⟨d, rfl⟩ := oz b hb
  have e : c = d := Nat.le_antisymm h1 h2
  rw [e]
theorem foll_one {cs : List (Str × Str)} {z : Str} (hc : CodeP cs) : ∀ y ∈ foll cs z, One y := fun y hy => by
  obtain ⟨p, hp, rfl⟩ := List.mem_map.mp hy
  obtain ⟨c, e, _⟩ := hc.lt p (List.mem_filter.mp hp).1
  exact ⟨c, e⟩
/-! ### texts of signs -/
theorem sg_app {a b : Str} (ha : SgT a) (hb : SgT b) : SgT (a ++ b) := fun c hc => by
  rw [tl_append] at hc
  rcases List.mem_append.mp hc with h | h
  · exact ha c h
  · exact hb c h
theorem tl_cut (z : Str) (lo hi : Option Int) : tl (cutS z lo hi) = ((tl z).drop (HT.sIx z.length 0 lo)).take (HT.sIx z.length z.length hi - HT.sIx z.length 0 lo) := rfl
theorem sg_cut {a : Str} {lo hi : Option Int} (ha : SgT a) : SgT (cutS a lo hi) := fun c hc => by
  rw [tl_cut] at hc
  exact ha c (List.mem_of_mem_drop (List.mem_of_mem_take hc))
theorem cut_le (a : Str) (lo hi : Option Int) : (cutS a lo hi).length ≤ a.length := by
  rw [len_tl, tl_cut, len_tl, List.length_take, List.length_drop]
  omega
theorem cut_8 (a : Str) : (cutS a none (some 8)).length = min 8 a.length := by
  have e1 : HT.sIx a.length 0 none = 0 := rfl
  have e2 : HT.sIx a.length a.length (some 8) = min 8 a.length := by
    simp only [HT.sIx]
    rw [if_neg (by decide)]
    omega
  rw [len_tl, tl_cut, e1, e2, List.drop_zero, Nat.sub_zero, List.length_take, ← len_tl]
  omega
def lev (x : Str) : Prop := x = "s" ∨ x = "l"
theorem sg_lev {x : Str} (h : lev x) : SgT x := by
  rcases h with rfl | rfl
  · intro c hc
    have e : tl ("s" : Str) = [115] := by decide +kernel
    rw [e] at hc
    exact .inl (List.mem_singleton.mp hc)
  · intro c hc
    have e : tl ("l" : Str) = [108] := by decide +kernel
    rw [e] at hc
    exact .inr (List.mem_singleton.mp hc)
theorem len_lev {x : Str} (h : lev x) : x.length = 1 := by rcases h with rfl | rfl <;> decide +kernel
theorem joinE : ∀ ps : List (List Nat), joinL [] ps = ps.flatten
  | [] => rfl
  | [p] => by simp [joinL]
  | p :: q :: r => by
    show p ++ ([] ++ joinL [] (q :: r)) = _
    rw [joinE (q :: r)]
    simp
theorem tl_glue (xs : List Str) : tl (Txt.join "" xs) = (xs.map tl).flatten := by
  have e : tl ("" : Str) = [] := by decide +kernel
  rw [join_eq, tl_join, e, joinE]
theorem glue_sg {xs : List Str} (h : ∀ x ∈ xs, lev x) : SgT (Txt.join "" xs) ∧ (Txt.join "" xs).length = xs.length := by
  refine ⟨fun c hc => ?_, ?_⟩
  · rw [tl_glue] at hc
    obtain ⟨l, hl, hc⟩ := List.mem_flatten.mp hc
    obtain ⟨x, hx, rfl⟩ := List.mem_map.mp hl
    exact sg_lev (h x hx) c hc
  · rw [len_tl, tl_glue]
    induction xs with
    | nil => rfl
    | cons x r ih =>
      have := ih fun y hy => h y (by simp [hy])
      have h1 := len_lev (h x (by simp))
      rw [List.map_cons, List.flatten_cons, List.length_append, this, ← len_tl, h1, List.length_cons]
      omega
theorem c115 : (⟨#[115]⟩ : Str) = "s" := by decide +kernel
theorem c108 : (⟨#[108]⟩ : Str) = "l" := by decide +kernel
theorem od_sl {K : Fg} {R : D → Prop} {z : Int} (h0 : 0 ≤ z) (h1 : z < 2) (q : ∀ x, lev x → R (.str x)) : OD K (rIx K) (.str "sl") (.int z) R := by
  have h : z = 0 ∨ z = 1 := by omega
  rcases h with rfl | rfl
  · refine od_ix_s (c := 115) (len_ok (by decide +kernel)) (by decide +kernel) ?_
    rw [c115]
    exact q _ (.inl rfl)
  · refine od_ix_s (c := 108) (len_ok (by decide +kernel)) (by decide +kernel) ?_
    rw [c108]
    exact q _ (.inr rfl)
section
variable {K : Fg} {δ : Dl} {M : Ms} {R : D → Ms → Prop} {ts : TA} {E : XK}
theorem we_dip {i k : Nat} (ho : δ[i]? = some (some (.own k))) (h : WD K ts δ M fun ds M1 => ∃ a b c many : Int, ds = [.int many] ∧ M1[k]? = some (.lst [.int a, .int b, .int c]) ∧ 0 ≤ a ∧ 0 ≤ b ∧ b < 2 ^ 200 ∧ 0 ≤ c ∧ c < 2 ^ 60 ∧ 0 < many ∧ many < 2 ^ 400 ∧
    ∀ z a' c' : Int, 0 ≤ z → z < many → 0 ≤ a' → c ≤ c' → c' ≤ c + 1 → R (.int z) (M1.set k (.lst [.int a', .int b, .int c']))) : WE K (tCall (SpF K spinS) [] E (tCons (tVar i) ts)) δ M R :=
  we_callO ho (wd_mono h fun ds M1 q => by
    obtain ⟨a, b, c, many, rfl, hm, h1, h2, h3, h4, h5, h6, h7, hR⟩ := q
    refine ⟨_, hm, a, b, c, many, rfl, rfl, h1, h2, h3, h4, h5, h6, h7, fun z a' c' q1 q2 q3 q4 q5 m' e => ?_⟩
    cases e
    exact hR z a' c' q1 q2 q3 q4 q5)
/-- _law_word: a text of signs -/
def wordS : FS := fun cs M R => ∃ a b c most : Int, cs = [.own 0, .dat (.int most)] ∧ M = [.lst [.int a, .int b, .int c]] ∧ 0 ≤ a ∧ 0 ≤ b ∧ b < 2 ^ 200 ∧ 0 ≤ c ∧ c < 2 ^ 59 ∧ 1 ≤ most ∧ most ≤ 8 ∧
  ∀ (z : Str) (a' c' : Int), SgT z → 1 ≤ z.length → z.length ≤ 8 → 0 ≤ a' → c ≤ c' → c' ≤ c + 10 → R (.str z) [.lst [.int a', .int b, .int c']]
theorem we_word {i k : Nat} (ho : δ[i]? = some (some (.own k))) (h : WD K ts δ M fun ds M1 => ∃ a b c most : Int, ds = [.int most] ∧ M1[k]? = some (.lst [.int a, .int b, .int c]) ∧ 0 ≤ a ∧ 0 ≤ b ∧ b < 2 ^ 200 ∧ 0 ≤ c ∧ c < 2 ^ 59 ∧ 1 ≤ most ∧ most ≤ 8 ∧
    ∀ (z : Str) (a' c' : Int), SgT z → 1 ≤ z.length → z.length ≤ 8 → 0 ≤ a' → c ≤ c' → c' ≤ c + 10 → R (.str z) (M1.set k (.lst [.int a', .int b, .int c']))) : WE K (tCall (SpF K wordS) [] E (tCons (tVar i) ts)) δ M R :=
  we_callO ho (wd_mono h fun ds M1 q => by
    obtain ⟨a, b, c, most, rfl, hm, h1, h2, h3, h4, h5, h6, h7, hR⟩ := q
    refine ⟨_, hm, a, b, c, most, rfl, rfl, h1, h2, h3, h4, h5, h6, h7, fun z a' c' q1 q2 q3 q4 q5 q6 m' e => ?_⟩
    cases e
    exact hR z a' c' q1 q2 q3 q4 q5 q6)
end
local macro_rules | `(tactic| walk_at "sp0") => `(tactic| first
  | ((with_reducible refine And.intro (fun hT => ?_) (fun hT => ?_)) <;> (first | (exact absurd (show false = true from hT) Bool.false_ne_true) | (exact absurd (show true = false from hT) tnf) | skip))
  | (with_reducible refine we_dip rfl ?_) | (with_reducible refine we_word rfl ?_)
  | walk_at "wp0")
local macro_rules | `(tactic| walk_at "sp") => `(tactic| repeat' (first | walk_at "sp0" | fail))
section
variable {P : Program} {w : World} {K : Fg} {mg : Str → Option Value} {base : Heap}
theorem ok_word (T : Tx K mg) : FnG P w K mg base 2 T.f_law_word T.d_law_word ["fount", "most"] (SpF K wordS) := by
  have G_law_dip := ok_spin (P := P) (w := w) (base := base) T
  refine fgok T.F_law_word sc_law_word (fun cs M R h => ?_) fun cdv A outer s1 H E hr hg => ⟨_, (pss_one (ps_ret (pe_m1 PySem.F.slot_str_join PySem.F.type_str_join mt_joinK pe_str (pe_lc (own := [("turn", 2)]) rfl sc_law_word.nd (pi_range1 rfl T.n_range (pa_cons (pe_op op_add pe_int (pg_call G_law_dip (hr.mono (by decide)) hg rfl T.m_law_dip T.F_law_dip.kp T.b_law_dip (pa_cons (pv 0) (pa_cons (pv 1) pa_nil)))) pa_nil)) (blkOk_by (own := [("turn", 2)]) (N := ["fount", "most", "turn"]) (sc := defScope s_law_word) (by decide +kernel)) (fun _ _ _ _ _ => (pg_name (i := 2) sc_law_word.nd rfl (Or.inl rfl))) (fun _ _ _ _ _ => pts_nil) (fun _ _ _ _ _ => (pe_ix (ixK (K := K) rfl) pe_str (pg_call G_law_dip (hr.mono (by decide)) hg rfl T.m_law_dip T.F_law_dip.kp T.b_law_dip (pa_cons (pv 0) (pa_cons pe_int pa_nil))) (fun _ _ => rfl))))))), fun cs M R h => ?_⟩
  · obtain ⟨a, b, c, most, rfl, _⟩ := h
    rfl
  try simp only [nox_K, cxo_K]
  obtain ⟨a, b, c, most, rfl, rfl, ha, hb, hb2, hc, hc2, hm1, hm8, hR⟩ := h
  have big := lt_ok (n := 5001) rfl
  refine wb_ret (we_join (we_str ⟨_, rfl, ?_⟩))
  refine we_wl (wl_lcR1 ?_)
  walk_at "sp"
  refine ⟨a, b, c, _, rfl, rfl, ha, hb, hb2, hc, by omega, by omega, by omega, fun z1 a1 c1 hz10 hz11 ha1 hc11 hc12 => ?_⟩
  walk_at "sp"
  refine ⟨by omega, by omega, ?_⟩
  refine comp_inv (fun j M' acc => ∃ (xs : List Str) (a' c' : Int), acc = xs.map .str ∧ xs.length = j ∧ (∀ x ∈ xs, lev x) ∧ M' = [.lst [.int a', .int b, .int c']] ∧ 0 ≤ a' ∧ c ≤ c' ∧ c' ≤ c + 1 + j) _ 0 _ _ ⟨[], a1, c1, rfl, rfl, (fun x h => nomatch h), rfl, ha1, hc11, by omega⟩ (fun i d M acc hi hI => ?_) (fun M acc hI => ?_)
  · obtain ⟨xs, a2, c2, rfl, hxl, hxs, rfl, ha2, hc20, hc21⟩ := hI
    have hi8 : i < 9 := by
      have h3 := (List.getElem?_eq_some_iff.mp hi).1
      rw [nums_len] at h3
      omega
    refine wc_name (by decide) ?_
    walk_at "sp"
    refine ⟨a2, b, c2, 2, rfl, rfl, ha2, hb, hb2, by omega, by omega, by decide, by decide, fun z2 a3 c3 hz20 hz21 ha3 hc31 hc32 => ?_⟩
    refine od_sl hz20 hz21 fun x hx => ?_
    refine ⟨by rw [List.length_map]; omega, xs ++ [x], a3, c3, by simp, by rw [List.length_append, hxl]; simp, fun y hy => ?_, rfl, ha3, by omega, by omega⟩
    rcases List.mem_append.mp hy with hy | hy
    · exact hxs y hy
    · rw [List.mem_singleton.mp hy]; exact hx
  · obtain ⟨xs, a2, c2, rfl, hxl, hxs, rfl, ha2, hc20, hc21⟩ := hI
    rw [nums_len] at hxl hc21
    obtain ⟨g1, g2⟩ := glue_sg hxs
    have hsum : (xs.map fun x => x.length).sum = xs.length := by
      clear hxl g1 g2 hc21
      induction xs with
      | nil => rfl
      | cons x r ih =>
        rw [List.map_cons, List.sum_cons, ih fun y hy => hxs y (by simp [hy]), len_lev (hxs x (by simp)), List.length_cons]
        omega
    have l0 : ("" : Str).length = 0 := by decide +kernel
    refine ⟨xs, rfl, by rw [hsum, l0]; omega, hR _ a2 c2 g1 (by omega) (by omega) ha2 hc20 (by omega)⟩
end
end K29

set_option Elab.async false
set_option linter.all false
set_option maxRecDepth 100000
set_option maxHeartbeats 2000000
set_option exponentiation.threshold 500
namespace K29
open PySem L2 Evl PySem.Spec PyProof.Rows PW TL
local macro_rules | `(tactic| walk_at "wp0") => `(tactic| first
  | (with_reducible refine wb_seq ?_) | (with_reducible refine wb_asg ?_) | (with_reducible refine wg_name ?_) | (with_reducible refine wb_ret ?_) | (with_reducible refine vb_if ?_) | (with_reducible refine wb_next ?_) | (with_reducible refine wb_drop ?_) | (with_reducible refine wb_retN ?_)
  | ((with_reducible show WG _ (gTup _ _ _) _ _ _ _); refine wg_tup rfl ?_) | (with_reducible refine wgs_cons ?_) | ((with_reducible show WGs _ (gCons _ _) _ _ _ _); refine wgs_cons ?_) | (with_reducible refine wgs_nil ?_) | ((with_reducible show WGs _ gNil _ _ _ _); refine wgs_nil ?_)
  | ((with_reducible show WE _ (tVar _) _ _ _); refine we_var rfl ?_)
  | (with_reducible refine we_int ?_) | (with_reducible refine we_str ?_) | (with_reducible refine we_bl ?_) | (with_reducible refine we_non ?_)
  | (with_reducible refine we_isi kit_int ?_) | (with_reducible refine we_isi kit_bool ?_) | (with_reducible refine we_isi kit_str ?_) | (with_reducible refine we_isi kit_tup ?_) | (with_reducible refine we_isi kit_lst ?_)
  | ((with_reducible show WE _ (tOp (rIx _) (tVar _) (tC _)) _ _ _); refine we_ixO rfl rfl rfl ?_)
  | ((with_reducible show WE _ (tOp (rCatS _) _ _) _ _ _); refine we_wl (wl_op ?_)) | ((with_reducible refine ol_cat ?s1 ?_); (case s1 => exact len_ok rfl)) | ((with_reducible refine od_catA ?s1 ?_); (case s1 => exact len_ok rfl))
  | (with_reducible refine we_op ?_) | (with_reducible refine we_tup ?_) | (with_reducible refine we_lst ?_) | (with_reducible refine we_pur ?_) | (with_reducible refine we_cb ?_) | (with_reducible refine we_slA ?_)
  | (with_reducible refine we_wl (wl_slL ?_)) | (with_reducible refine wo_none ?_) | (with_reducible refine wo_some ?_)
  | (with_reducible refine wd_cons ?_) | (with_reducible refine wd_nil ?_)
  | (with_reducible refine ve_and ?_) | (with_reducible refine ve_or ?_) | (with_reducible refine ve_not ?_) | (with_reducible refine ve_if ?_)
  | (with_reducible refine vt_and ?_) | (with_reducible refine vt_or ?_) | (with_reducible refine wt_not ?_) | (with_reducible refine wt_testB ?_) | (with_reducible refine wt_truB ?_)
  | (with_reducible refine od_int0 ?_) | ((with_reducible refine od_int ?s1 ?_); (case s1 => first | assumption | decide | exact ⟨by decide, by decide⟩)) | ((with_reducible show OD _ (rIx _) (.list _) (.int _) _); refine od_ix_l rfl ?_) | ((with_reducible show OD _ (rIx _) (.tuple _) (.int _) _); refine od_ix_t rfl ?_) | ((with_reducible show WG _ (gSub (tVar _) _ _) _ _ _ _); refine wg_sub rfl ?_) | (with_reducible refine od_bl0 ?_)
  | ((with_reducible show WE _ (tC _) _ _ _); refine we_con (d := ?wd) ?wc0 ?_; (case wc0 => assumption))
  | (with_reducible refine OD.or1 (od_eqS ?_)) | (with_reducible refine OD.or1 (od_neS ?_)) | (with_reducible refine od_isN ?_) | (with_reducible refine od_notN ?_)
  | ((with_reducible refine OD.or2 (od_eqD ?s1 ?s2 ?_)); (case s1 => first | assumption | exact rfl | decide +kernel); (case s2 => first | assumption | exact rfl | decide +kernel)) | ((with_reducible refine OD.or2 (od_neD ?s1 ?s2 ?_)); (case s1 => first | assumption | exact rfl | decide +kernel); (case s2 => first | assumption | exact rfl | decide +kernel))
  | ((with_reducible refine od_inT ?s1 ?s2 ?_); (case s1 => first | assumption | exact rfl | decide +kernel); (case s2 => first | assumption | exact rfl | decide +kernel)) | ((with_reducible refine od_notInT ?s1 ?s2 ?_); (case s1 => first | assumption | exact rfl | decide +kernel); (case s2 => first | assumption | exact rfl | decide +kernel))
  | (with_reducible refine cd_abs ?_) | (with_reducible refine cd_int ?_) | (with_reducible refine cd_max2 ?_) | (with_reducible refine cd_min2 ?_) | (with_reducible refine cd_lenL ?_) | (with_reducible refine cd_lenT ?_)
  | (with_reducible refine And.intro (fun hT => ?_) (fun hT => ?_))
  | ((with_reducible refine Exists.intro ?wc (And.intro ?we ?_)); (case we => exact rfl))
  | ((with_reducible show ∃ (_ : Int) (_ : Nat) (_ : List D), _); refine ⟨_, _, _, rfl, rfl, rfl, ?_⟩)
  | ((with_reducible refine And.intro ?we ?_); (case we => first | exact rfl | exact trivial | exact len_ok rfl | exact ⟨_, rfl⟩ | exact ⟨_, _, rfl⟩ | exact ⟨_, _, rfl, rfl⟩ | exact ⟨_, _, _, rfl⟩ | exact ⟨_, rfl, by assumption⟩ | exact ⟨_, by assumption, rfl⟩ | assumption)))
local macro_rules | `(tactic| walk_at "wp") => `(tactic| repeat' (first | walk_at "wp0" | fail))

/-! ### _law_code -/
theorem tnf : ¬ (true = false) := fun z => nomatch z
def Box (p : Dl → Ms → Prop) : Dl → Ms → Prop := p
def L0 : List Str := (tl abc).map fun c => ⟨#[c]⟩
theorem l0_len : L0.length = 36 := by decide +kernel
theorem l0_nd : L0.Nodup := by decide +kernel
theorem l0_let : ∀ x ∈ L0, LetT x := fun x h => by
  obtain ⟨c, hc, rfl⟩ := List.mem_map.mp h
  exact ⟨c, rfl, hc⟩
theorem l0_sg : sgD abc = L0.map PyData.str := by
  unfold L0
  rw [List.map_map]
  rfl
theorem flat_strs : ∀ ws : List Str, (ws.map PyData.str).all flatD = true
  | [] => rfl
  | _ :: r => by
    rw [List.map_cons, List.all_cons, flat_strs r]
    rfl
theorem any_strs {x : Str} : ∀ ws : List Str, ((ws.map PyData.str).any fun z => PyData.eqv z (.str x)) = decide (x ∈ ws)
  | [] => rfl
  | y :: r => by
    rw [List.map_cons, List.any_cons, any_strs r, eqv_str]
    by_cases h : y = x
    · subst h; simp
    · have h2 : (y == x) = false := by simpa using h
      rw [h2, Bool.false_or]
      simp [Ne.symm h]
theorem put_new : ∀ {cs : List (Str × Str)} {x z : Str}, x ∉ cs.map (·.1) → putS (wps cs) x (.str z) = wps (cs ++ [(x, z)]) := fun {cs x z} h => by
  unfold putS
  rw [if_neg]
  · show wps cs ++ _ = List.map _ (cs ++ [(x, z)])
    rw [List.map_append]
    rfl
  · intro q
    obtain ⟨p, hp, e⟩ := List.any_eq_true.mp q
    obtain ⟨r, hr, rfl⟩ := List.mem_map.mp hp
    have e' : r.1 = x := by simpa using e
    exact h (by rw [← e']; exact List.mem_map_of_mem hr)
theorem nodup_snoc {α : Type} {xs : List α} {x : α} (h : xs.Nodup) (hx : x ∉ xs) : (xs ++ [x]).Nodup := by
  rw [List.nodup_append]
  refine ⟨h, by simp, fun a ha b hb => ?_⟩
  rw [List.mem_singleton.mp hb]
  exact fun e => hx (e ▸ ha)
theorem erase_map {α β : Type} (f : α → β) : ∀ (xs : List α) (i : Nat), (xs.map f).eraseIdx i = (xs.eraseIdx i).map f
  | [], _ => by simp
  | x :: r, 0 => rfl
  | x :: r, i + 1 => by
    rw [List.map_cons, List.eraseIdx_cons_succ, List.eraseIdx_cons_succ, List.map_cons, erase_map f r i]
theorem erase_not {α : Type} : ∀ {xs : List α} {i : Nat} {x : α}, xs.Nodup → xs[i]? = some x → x ∉ xs.eraseIdx i
  | [], _, _, _, h => nomatch h
  | y :: r, 0, x, nd, h => by
    cases h
    exact (List.nodup_cons.mp nd).1
  | y :: r, i + 1, x, nd, h => by
    rw [List.eraseIdx_cons_succ]
    intro hm
    rcases List.mem_cons.mp hm with rfl | hm
    · exact (List.nodup_cons.mp nd).1 (List.mem_of_getElem? (i := i) (by simpa using h))
    · exact erase_not (List.nodup_cons.mp nd).2 (by simpa using h) hm
local macro_rules | `(tactic| walk_at "sp0") => `(tactic| first
  | ((with_reducible refine And.intro (fun hT => ?_) (fun hT => ?_)) <;> (first | (exact absurd (show false = true from hT) Bool.false_ne_true) | (exact absurd (show true = false from hT) tnf) | skip))
  | (with_reducible refine we_dip rfl ?_) | (with_reducible refine we_word rfl ?_)
  | ((with_reducible show PW.WE _ (tSl rSlS _ _ _) _ _ _); refine we_slS ?_)
  | walk_at "wp0")
local macro_rules | `(tactic| walk_at "sp") => `(tactic| repeat' (first | walk_at "sp0" | fail))
section
variable {P : Program} {w : World} {K : Fg} {mg : Str → Option Value} {base : Heap}
def codeS : FS := fun cs M R => ∃ a b c many most : Int, cs = [.own 0, .dat (.int many), .dat (.int most)] ∧ M = [.lst [.int a, .int b, .int c]] ∧ 0 ≤ a ∧ 0 ≤ b ∧ b < 2 ^ 200 ∧ 0 ≤ c ∧ c < 2 ^ 58 ∧ 1 ≤ many ∧ many ≤ 36 ∧ 1 ≤ most ∧ most ≤ 8 ∧
  ∀ (ps : List (Str × Str)) (a' c' : Int), CodeP ps → 0 ≤ a' → c ≤ c' → c' ≤ c + 1000 → R (wd ps) [.lst [.int a', .int b, .int c']]
theorem ok_code (T : Tx K mg) : FnG P w K mg base 3 T.f_law_code T.d_law_code ["fount", "many", "most"] (SpF K codeS) := by
  have G_law_dip := ok_spin (P := P) (w := w) (base := base) T
  have G_law_word := ok_word (P := P) (w := w) (base := base) T
  refine fgok T.F_law_code sc_law_code (fun cs M R h => ?_) fun cdv A outer s1 H E hr hg => ⟨_, (pss_cons (ps_par (i := 4) (j := 5) (by rfl) sc_law_code.nd rfl rfl (by decide) rfl rfl (pa_cons (pe_callTy (call_lstT rfl) (by rfl) T.n_list (by decide +kernel) (pa_cons pe_str pa_nil)) (pa_cons pe_dnewK pa_nil)) (by rfl)) (pss_cons (ps_for PassesOwn.never rfl (pi_range1 rfl T.n_range (pa_cons (pv 1) pa_nil)) (pg_name (i := 3) sc_law_code.nd rfl (Or.inl rfl)) (pss_cons (ps_par (i := 7) (j := 8) (by rfl) sc_law_code.nd rfl rfl (by decide) rfl rfl (pa_cons (pe_bm PySem.F.plainAttrs_list PySem.F.slot_list_pop PySem.F.type_list_pop mt_popAt (pv 4) (pa_cons (pg_call G_law_dip (hr.mono (by decide)) hg rfl T.m_law_dip T.F_law_dip.kp T.b_law_dip (pa_cons (pv 0) (pa_cons (pe_callB call_lenD (by rfl) T.n_len (by decide +kernel) (pa_cons (pv 4) pa_nil)) pa_nil))) pa_nil)) (pa_cons (pe_listVals rfl (pv 5) (by rfl) T.n_list rfl) pa_nil)) (by rfl)) (pss_cons (ps_set (i := 6) sc_law_code.nd rfl (Or.inl rfl) (pg_call G_law_word (hr.mono (by decide)) hg rfl T.m_law_word T.F_law_word.kp T.b_law_word (pa_cons (pv 0) (pa_cons (pv 2) pa_nil)))) (pss_cons (ps_if (PW.pt (pw_and (pt_cmpR ((op_neD (u65 hr)).or (op_neE (u65 hr))) (pv 8) (pe_lst pa_nil) (nomark _)) (pw_and1 (pt_cmpR (op_eq.or (op_eqD (u65 hr))) (pg_call G_law_dip (hr.mono (by decide)) hg rfl T.m_law_dip T.F_law_dip.kp T.b_law_dip (pa_cons (pv 0) (pa_cons pe_int pa_nil))) pe_int (nomark _))))) (pss_one (ps_set (i := 6) sc_law_code.nd rfl (Or.inl rfl) (pe_slice sl_str (pe_op op_add_str (pe_ix ix_seq (pv 8) (pg_call G_law_dip (hr.mono (by decide)) hg rfl T.m_law_dip T.F_law_dip.kp T.b_law_dip (pa_cons (pv 0) (pa_cons (pe_callB call_lenD (by rfl) T.n_len (by decide +kernel) (pa_cons (pv 8) pa_nil)) pa_nil))) (fun _ _ => rfl)) (pe_ix ix_seq (pv 8) (pg_call G_law_dip (hr.mono (by decide)) hg rfl T.m_law_dip T.F_law_dip.kp T.b_law_dip (pa_cons (pv 0) (pa_cons (pe_callB call_lenD (by rfl) T.n_len (by decide +kernel) (pa_cons (pv 8) pa_nil)) pa_nil))) (fun _ _ => rfl))) po_none (po_some pe_int)))) pss_nil) (pss_one (ps_if (pt_cmpR op_notIn_seq (pv 6) (pv 8) (by rfl)) (pss_one (ps_dput (hu_of hr) (pv 5) (pv 7) (pv 6) (by rfl))) pss_nil)))))) (pss_one (ps_ret (pv 5))))), fun cs M R h => ?_⟩
  · obtain ⟨a, b, c, many, most, rfl, _⟩ := h
    rfl
  try simp only [nox_K, cxo_K]
  obtain ⟨a, b, c, many, most, rfl, rfl, ha, hb, hb2, hc, hc2, hm1, hm36, ho1, ho8, hR⟩ := h
  have big := lt_ok (n := 5001) rfl
  refine wb_seq (wb_parOD (wl_cb (wd_cons (we_str (wd_nil (cl_lstZ (len_ok (by decide +kernel)) ?_))))))
  refine wb_seq (wb_forR1 ?_)
  rw [show sgD (Str.ofString "abcdefghijklmnopqrstuvwxyz0123456789") = L0.map PyData.str from l0_sg]
  walk_at "sp"
  refine ⟨by omega, by omega, turns_inv (fun j δ' M' => ∃ (x3 x6 x7 x8 : Option C) (L : List Str) (cs : List (Str × Str)) (a' c' : Int), δ' = [some (.own 0), some (.dat (.int many)), some (.dat (.int most)), x3, some (.own 1), some (.own 2), x6, x7, x8] ∧
    M' = [.lst [.int a', .int b, .int c'], .lst (L.map .str), TD (wps cs)] ∧ L.length + j = 36 ∧ L.Nodup ∧ (∀ x ∈ L, LetT x) ∧ cs.length ≤ j ∧ (1 ≤ j → 1 ≤ cs.length) ∧ (∀ p ∈ cs, LetT p.1 ∧ p.1 ∉ L) ∧ (cs.map (·.1)).Nodup ∧ (cs.map (·.2)).Nodup ∧ (∀ p ∈ cs, SgT p.2 ∧ 1 ≤ p.2.length ∧ p.2.length ≤ 8) ∧ 0 ≤ a' ∧ c ≤ c' ∧ c' ≤ c + 20 * j)
    ⟨none, none, none, none, L0, [], a, c, rfl, rfl, l0_len, l0_nd, l0_let, Nat.le_refl _, (fun h => absurd h (by decide)), (fun p h => nomatch h), .nil, .nil, (fun p h => nomatch h), ha, Int.le_refl _, by omega⟩ ?_ ?_⟩
  · rintro j dd _ _ hj ⟨x3, x6, x7, x8, L, cs, a1, c1, rfl, rfl, hL, hLn, hLl, hcj, hc1, hck, hnd, hnw, hwo, ha1, hc10, hc11⟩
    have hjm : j < 36 := by
      have h3 := (List.getElem?_eq_some_iff.mp hj).1
      rw [nums_len] at h3
      omega
    clear hj
    refine wg_name ?_
    refine wb_seq (wb_par (wd_cons ?_))
    refine we_popM rfl rfl (we_dip rfl (wd_cons (we_look ?_)))
    refine we_cb (wd_cons (we_var rfl (wd_nil (cd_lenL ?_))))
    refine ⟨rfl, wd_nil ?_⟩
    refine ⟨a1, b, c1, _, rfl, rfl, ha1, hb, hb2, by omega, by omega, by rw [List.length_map]; omega, by rw [List.length_map]; omega, fun z a2 c2 hz0 hz1 ha2 hc20 hc21 => ?_⟩
    rw [List.length_map] at hz1
    obtain ⟨i, rfl⟩ := Int.eq_ofNat_of_zero_le hz0
    have hi : i < L.length := by omega
    have hix : seqIndex? (i : Int) (L.map PyData.str).length = some i := by
      unfold seqIndex?
      rw [List.length_map]
      simp only [show ¬ ((i : Int) < 0) by omega, if_false]
      rw [if_pos (by simp; omega)]
      rfl
    refine ⟨_, _, i, _, rfl, rfl, ⟨by omega, by omega⟩, hix, by rw [List.getElem?_map, List.getElem?_eq_getElem hi]; rfl, ?_⟩
    have hxm : L[i] ∈ L := List.getElem_mem hi
    have hxn : L[i] ∉ L.eraseIdx i := erase_not hLn (List.getElem?_eq_getElem hi)
    generalize hx : L[i] = x at hxm hxn
    have hL2 : (L.eraseIdx i).length + (j + 1) = 36 := by rw [List.length_eraseIdx_of_lt hi]; omega
    have hL2n : (L.eraseIdx i).Nodup := hLn.sublist (List.eraseIdx_sublist L i)
    have hL2m : ∀ y ∈ L.eraseIdx i, y ∈ L := fun y hy => (List.eraseIdx_sublist L i).subset hy
    have hxk : x ∉ cs.map (·.1) := fun h => by
      obtain ⟨p, hp, e⟩ := List.mem_map.mp h
      exact (hck p hp).2 (by rw [e]; exact hxm)
    have eE : (L.map PyData.str).eraseIdx i = (L.eraseIdx i).map .str := erase_map _ _ _
    show PW.WD K _ _ [.lst [.int a2, .int b, .int c2], .lst ((L.map PyData.str).eraseIdx i), TD (wps cs)] _
    rw [eE]
    generalize L.eraseIdx i = L' at hxn hL2 hL2n hL2m
    refine wd_cons (we_wl (wl_lv rfl rfl (lf_wps cs) (wd_nil ⟨_, _, rfl, ?_⟩)))
    have eW : (wps cs).map (·.2) = (cs.map (·.2)).map PyData.str := by rw [List.map_map, List.map_map]; rfl
    rw [eW]
    refine wb_seq (wb_asg (we_word rfl (wd_cons (we_var rfl (wd_nil ?_)))))
    refine ⟨a2, b, c2, most, rfl, rfl, ha2, hb, hb2, by omega, by omega, ho1, ho8, fun z0 a3 c3 hz0 hz1 hz8 ha3 hc30 hc31 => ?_⟩
    refine wg_name ?_
    refine wb_seq (wb_cut (Box fun δ' M' => ∃ (zz : Str) (a' c' : Int), δ' = [some (.own 0), some (.dat (.int many)), some (.dat (.int most)), some (.dat dd), some (.own 1), some (.own 2), some (.dat (.str zz)), some (.dat (.str x)), some (.dat (.list ((cs.map (·.2)).map .str)))] ∧
      M' = [.lst [.int a', .int b, .int c'], .lst (L'.map .str), TD (wps cs)] ∧ SgT zz ∧ 1 ≤ zz.length ∧ zz.length ≤ 8 ∧ 0 ≤ a' ∧ c ≤ c' ∧ c' ≤ c3 + 3) ?_ ?_)
    · by_cases h0 : cs = []
      · subst h0
        walk_at "sp"
        refine OD.or1 (od_neD rfl rfl ?_)
        walk_at "sp"
        all_goals first
          | (exfalso; rename_i hT; exact absurd (show (!PyData.eqv (.list []) (.list [])) = true from hT) (by decide +kernel))
          | exact ⟨z0, a3, c3, rfl, rfl, hz0, hz1, hz8, ha3, by omega, by omega⟩
      · have hpos : 0 < cs.length := List.length_pos_iff.mpr h0
        walk_at "sp"
        refine OD.or2 (od_neE (by simp only [List.length_map, List.length_nil]; omega) ?_)
        walk_at "sp"
        refine ⟨a3, b, c3, 2, rfl, rfl, ha3, hb, hb2, by omega, by omega, by decide, by decide, fun z1 a4 c4 hz10 hz11 ha4 hc40 hc41 => ?_⟩
        walk_at "sp"
        · have hat : ∀ i : Int, 0 ≤ i → i < (cs.length : Int) → ∃ w0, atI ((cs.map (·.2)).map PyData.str) i = some (.str w0) ∧ SgT w0 ∧ 1 ≤ w0.length ∧ w0.length ≤ 8 := fun i h0 h1 => by
            obtain ⟨n, rfl⟩ := Int.eq_ofNat_of_zero_le h0
            have hn : n < cs.length := by omega
            refine ⟨cs[n].2, ?_, hwo _ (List.getElem_mem hn)⟩
            unfold atI ixN
            rw [if_pos (by omega), if_pos (by rw [List.length_map, List.length_map]; omega)]
            simp [hn]
          have lW : ((cs.map (·.2)).map PyData.str).length = cs.length := by rw [List.length_map, List.length_map]
          refine ⟨a4, b, c4, _, rfl, rfl, ha4, hb, hb2, by omega, by omega, by rw [lW]; omega, by rw [lW]; omega, fun z2 a5 c5 hz20 hz21 ha5 hc50 hc51 => ?_⟩
          rw [lW] at hz21
          obtain ⟨w1, e1, p1, p2, p3⟩ := hat z2 hz20 hz21
          refine od_ix_l e1 ?_
          walk_at "sp"
          refine ⟨a5, b, c5, _, rfl, rfl, ha5, hb, hb2, by omega, by omega, by rw [lW]; omega, by rw [lW]; omega, fun z3 a6 c6 hz30 hz31 ha6 hc60 hc61 => ?_⟩
          rw [lW] at hz31
          obtain ⟨w2, e2, q1, q2, q3⟩ := hat z3 hz30 hz31
          refine od_ix_l e2 ?_
          refine od_addS (by omega) ?_
          walk_at "sp"
          have l2 : (w1 ++ w2).length = w1.length + w2.length := Str.length_append _ _
          refine ⟨by omega, ?_⟩
          have l8 := cut_8 (w1 ++ w2)
          refine wg_name ?_
          exact ⟨_, a6, c6, rfl, rfl, sg_cut (sg_app p1 q1), by omega, by omega, ha6, by omega, by omega⟩
        · exact ⟨z0, a4, c4, rfl, rfl, hz0, hz1, hz8, ha4, by omega, by omega⟩
    rintro _ _ ⟨zz, a4, c4, rfl, rfl, hs1, hs2, hs3, ha4, hc40, hc41⟩
    walk_at "sp"
    refine od_notInLf rfl (flat_strs _) ?_
    rw [any_strs]
    walk_at "sp"
    · rename_i hT
      have hnew : zz ∉ cs.map (·.2) := by simpa using hT
      refine wb_tput rfl (we_var rfl (we_var rfl ⟨_, _, rfl, rfl, rfl, lf_wps _, by rw [List.length_map]; omega, ?_⟩))
      rw [put_new hxk]
      refine ⟨_, _, _, _, L', cs ++ [(x, zz)], a4, c4, rfl, rfl, hL2, hL2n, fun y hy => hLl y (hL2m y hy), by simp; omega, fun _ => by simp, fun p hp => ?_, ?_, ?_, fun p hp => ?_, ha4, hc40, by omega⟩
      · rcases List.mem_append.mp hp with hp | hp
        · exact ⟨(hck p hp).1, fun h => (hck p hp).2 (hL2m _ h)⟩
        · rw [List.mem_singleton.mp hp]
          exact ⟨hLl x hxm, hxn⟩
      · rw [List.map_append]
        exact nodup_snoc hnd hxk
      · rw [List.map_append]
        exact nodup_snoc hnw hnew
      · rcases List.mem_append.mp hp with hp | hp
        · exact hwo p hp
        · rw [List.mem_singleton.mp hp]
          exact ⟨hs1, hs2, hs3⟩
    · rename_i hT
      have hold : zz ∈ cs.map (·.2) := by simpa using hT
      have hpos : 1 ≤ cs.length := by
        have := List.length_pos_of_mem hold
        rw [List.length_map] at this
        exact this
      exact ⟨_, _, _, _, L', cs, a4, c4, rfl, rfl, hL2, hL2n, fun y hy => hLl y (hL2m y hy), by omega, fun _ => hpos, fun p hp => ⟨(hck p hp).1, fun h => (hck p hp).2 (hL2m _ h)⟩, hnd, hnw, hwo, ha4, hc40, by omega⟩
  · rintro _ _ ⟨x3, x6, x7, x8, L, cs, a1, c1, rfl, rfl, hL, hLn, hLl, hcj, hc1, hck, hnd, hnw, hwo, ha1, hc10, hc11⟩
    rw [nums_len] at hcj hc1 hc11
    have hcode : CodeP cs := ⟨hc1 (by omega), by omega, fun p hp => (hck p hp).1, hnd, hnw, hwo⟩
    refine wb_frzD (i := 5) (k := 2) rfl rfl (lf_wps cs) (fun e h => Nat.le_trans (Nat.le_of_eq h) (show 1 ≤ 2 by decide)) ?_
    refine wb_ret (we_var rfl ?_)
    exact hR cs a1 c1 hcode ha1 hc10 (by omega)
end
end K29

set_option Elab.async false
set_option linter.all false
set_option maxRecDepth 100000
set_option maxHeartbeats 2000000
set_option exponentiation.threshold 500
namespace K29
open PySem L2 Evl PySem.Spec PyProof.Rows PW TL
/-! ### what is shown -/
def Sml (z : Str) : Prop := ∀ c ∈ tl z, c < 200
theorem sml_sg {z : Str} (h : SgT z) : Sml z := fun c hc => by
  rcases h c hc with rfl | rfl <;> decide
theorem abc_sml : ∀ c ∈ tl abc, c < 200 := by decide +kernel
theorem sml_let {z : Str} (h : LetT z) : Sml z ∧ z.length = 1 := by
  obtain ⟨c, rfl, hc⟩ := h
  refine ⟨fun d hd => ?_, rfl⟩
  rw [List.mem_singleton.mp hd]
  exact abc_sml c hc
theorem lv_str {z : Str} (h : Sml z) : PyData.leavesShort 40 (.str z) = true := by
  rw [PyData.leavesShort.eq_4]
  exact List.all_eq_true.mpr fun c hc => decide_eq_true (Nat.lt_trans (h c hc) (by decide))
theorem lay_str {z : Str} (h : Sml z) : PyData.canLay0 (.str z) = true := by
  simp only [PyData.canLay0]
  unfold PyData.strOk
  rw [← Array.all_toList]
  exact List.all_eq_true.mpr fun c hc => decide_eq_true (Nat.lt_trans (h c hc) (by decide))
theorem kv_all : ∀ {cs : List (Str × Str)}, (∀ p ∈ cs, LetT p.1 ∧ SgT p.2 ∧ p.2.length ≤ 8) → PyData.leavesShortKv 40 ((wps cs).map fun p => (PyData.str p.1, p.2)) = true ∧ PyData.weightKv ((wps cs).map fun p => (PyData.str p.1, p.2)) ≤ 11 * cs.length ∧ PyData.showableKv ((wps cs).map fun p => (PyData.str p.1, p.2)) = true ∧ PyData.depthKv ((wps cs).map fun p => (PyData.str p.1, p.2)) ≤ 0
  | [], _ => ⟨by simp [PyData.leavesShortKv], by simp [PyData.weightKv], by simp [PyData.showableKv], by simp [PyData.depthKv]⟩
  | p :: r, h => by
    obtain ⟨h1, h2, h3, h4⟩ := kv_all fun q hq => h q (List.mem_cons_of_mem p hq)
    obtain ⟨hl, hs, h8⟩ := h p (by simp)
    obtain ⟨hl1, hl2⟩ := sml_let hl
    have e : ((wps (p :: r)).map fun p => (PyData.str p.1, p.2)) = (PyData.str p.1, PyData.str p.2) :: ((wps r).map fun p => (PyData.str p.1, p.2)) := rfl
    rw [e]
    refine ⟨?_, ?_, ?_, ?_⟩
    · simp only [PyData.leavesShortKv, lv_str hl1, lv_str (sml_sg hs), h1, Bool.and_self]
    · simp only [PyData.weightKv, PyData.weight, List.length_cons]
      have g1 : p.1.cps.size = 1 := hl2
      have g2 : p.2.cps.size ≤ 8 := h8
      omega
    · simp only [PyData.showableKv, PyData.showable, h3, Bool.and_self]
    · simp only [PyData.depthKv, PyData.depth]
      omega
theorem code_kv {cs : List (Str × Str)} (hc : CodeP cs) : ∀ p ∈ cs, LetT p.1 ∧ SgT p.2 ∧ p.2.length ≤ 8 := fun p hp => ⟨hc.lt p hp, (hc.wo p hp).1, (hc.wo p hp).2.2⟩
theorem shw_code {cs : List (Str × Str)} (hc : CodeP cs) : Shw (wd cs) := by
  obtain ⟨h1, h2, h3, h4⟩ := kv_all (code_kv hc)
  have hl := hc.hi
  refine ⟨.inr (by simp only [noL]), ?_, ?_, ?_⟩
  · simp only [PyData.showable]; exact h3
  · simp only [PyData.depth]; omega
  · have h5 : PyData.leavesShort 40 (wd cs) = true := by simp only [PyData.leavesShort]; exact h1
    have h6 := PyData.shown_le 40 (by decide) (wd cs) h5
    have h7 : (wd cs).weight ≤ 11 * 36 := by simp only [PyData.weight]; omega
    have h8 : (40 + 2) * (wd cs).weight ≤ 42 * (11 * 36) := Nat.mul_le_mul_left _ h7
    have h9 := lt_ok (n := 50001) rfl
    omega
theorem li_all : ∀ {ws : List Str}, (∀ x ∈ ws, Sml x ∧ x.length ≤ 1) → PyData.leavesShortAll 40 (ws.map .str) = true ∧ PyData.weightAll (ws.map .str) ≤ 2 * ws.length ∧ PyData.showableAll (ws.map .str) = true ∧ PyData.depthAll (ws.map .str) ≤ 0 ∧ PyData.hasDictAll (ws.map .str) = false ∧ PyData.canLayAll0 (ws.map .str) = true
  | [], _ => ⟨by simp [PyData.leavesShortAll], by simp [PyData.weightAll], by simp [PyData.showableAll], by simp [PyData.depthAll], by simp [PyData.hasDictAll], by simp [PyData.canLayAll0]⟩
  | x :: r, h => by
    obtain ⟨h1, h2, h3, h4, h5, h6⟩ := li_all fun q hq => h q (List.mem_cons_of_mem x hq)
    obtain ⟨hl, hs⟩ := h x (by simp)
    rw [List.map_cons]
    refine ⟨?_, ?_, ?_, ?_, ?_, ?_⟩
    · simp only [PyData.leavesShortAll, lv_str hl, h1, Bool.and_self]
    · simp only [PyData.weightAll, PyData.weight, List.length_cons]
      have g1 : x.cps.size ≤ 1 := hs
      omega
    · simp only [PyData.showableAll, PyData.showable, h3, Bool.and_self]
    · simp only [PyData.depthAll, PyData.depth]
      omega
    · simp only [PyData.hasDictAll, PyData.hasDict, h5, Bool.or_self]
    · simp only [PyData.canLayAll0, lay_str hl, h6, Bool.and_self]
theorem foll_sml {cs : List (Str × Str)} {z : Str} (hc : CodeP cs) : ∀ y ∈ foll cs z, Sml y ∧ y.length ≤ 1 := fun y hy => by
  obtain ⟨p, hp, rfl⟩ := List.mem_map.mp hy
  obtain ⟨h1, h2⟩ := sml_let (hc.lt p (List.mem_filter.mp hp).1)
  exact ⟨h1, Nat.le_of_eq h2⟩
theorem shw_lets {ws : List Str} (h : ∀ x ∈ ws, Sml x ∧ x.length ≤ 1) (hl : ws.length ≤ 36) : Shw (.list (ws.map .str)) ∧ SeqAt.shaped (.list (ws.map .str)) = true := by
  obtain ⟨h1, h2, h3, h4, h5, h6⟩ := li_all h
  refine ⟨⟨.inl (by simp only [PyData.hasDict]; exact h5), ?_, ?_, ?_⟩, ?_⟩
  · simp only [PyData.showable]; exact h3
  · simp only [PyData.depth]; omega
  · have g5 : PyData.leavesShort 40 (.list (ws.map .str)) = true := by simp only [PyData.leavesShort]; exact h1
    have g6 := PyData.shown_le 40 (by decide) _ g5
    have g7 : (PyData.list (ws.map .str)).weight ≤ 2 * 36 := by simp only [PyData.weight]; omega
    have g8 : (40 + 2) * (PyData.list (ws.map .str)).weight ≤ 42 * (2 * 36) := Nat.mul_le_mul_left _ g7
    have h9 := lt_ok (n := 50001) rfl
    omega
  · unfold SeqAt.shaped
    rw [Bool.and_eq_true]
    refine ⟨by simp only [PyData.canLay0]; exact h6, decide_eq_true ?_⟩
    simp only [PyData.depth]
    omega
/-- the code, its letters the other way round -/
theorem code_rev {cs : List (Str × Str)} (hc : CodeP cs) : CodeP cs.reverse := by
  refine ⟨by rw [List.length_reverse]; exact hc.lo, by rw [List.length_reverse]; exact hc.hi, fun p hp => hc.lt p (List.mem_reverse.mp hp), ?_, ?_, fun p hp => hc.wo p (List.mem_reverse.mp hp)⟩
  · rw [List.map_reverse]; exact (List.reverse_perm _).nodup_iff.mpr hc.nd
  · rw [List.map_reverse]; exact (List.reverse_perm _).nodup_iff.mpr hc.nw
theorem foll_rev (cs : List (Str × Str)) (z : Str) : (foll cs.reverse z).Perm (foll cs z) := by
  unfold foll
  rw [List.filter_reverse, List.map_reverse]
  exact List.reverse_perm _
theorem items_rev (cs : List (Str × Str)) : ((wps cs).map fun p => PyData.tuple [.str p.1, p.2]).reverse = (wps cs.reverse).map fun p => PyData.tuple [.str p.1, p.2] := by
  rw [← List.map_reverse, ← List.map_reverse]
theorem sg_rep {a : Str} {n : Int} (h : SgT a) : SgT (repT a n) := fun c hc => h c (repT_mem hc)
end K29

set_option Elab.async false
set_option linter.all false
set_option maxRecDepth 100000
set_option maxHeartbeats 2000000
set_option exponentiation.threshold 500
namespace K29
open PySem L2 Evl PySem.Spec PyProof.Rows PW TL
local macro_rules | `(tactic| walk_at "wp0") => `(tactic| first
  | (with_reducible refine wb_seq ?_) | (with_reducible refine wb_asg ?_) | (with_reducible refine wg_name ?_) | (with_reducible refine wb_ret ?_) | (with_reducible refine vb_if ?_) | (with_reducible refine wb_next ?_) | (with_reducible refine wb_drop ?_) | (with_reducible refine wb_retN ?_)
  | ((with_reducible show WG _ (gTup _ _ _) _ _ _ _); refine wg_tup rfl ?_) | (with_reducible refine wgs_cons ?_) | ((with_reducible show WGs _ (gCons _ _) _ _ _ _); refine wgs_cons ?_) | (with_reducible refine wgs_nil ?_) | ((with_reducible show WGs _ gNil _ _ _ _); refine wgs_nil ?_)
  | ((with_reducible show WE _ (tVar _) _ _ _); refine we_var rfl ?_)
  | (with_reducible refine we_int ?_) | (with_reducible refine we_str ?_) | (with_reducible refine we_bl ?_) | (with_reducible refine we_non ?_)
  | (with_reducible refine we_isi kit_int ?_) | (with_reducible refine we_isi kit_bool ?_) | (with_reducible refine we_isi kit_str ?_) | (with_reducible refine we_isi kit_tup ?_) | (with_reducible refine we_isi kit_lst ?_)
  | ((with_reducible show WE _ (tOp (rIx _) (tVar _) (tC _)) _ _ _); refine we_ixO rfl rfl rfl ?_)
  | ((with_reducible show WE _ (tOp (rCatS _) _ _) _ _ _); refine we_wl (wl_op ?_)) | ((with_reducible refine ol_cat ?s1 ?_); (case s1 => exact len_ok rfl)) | ((with_reducible refine od_catA ?s1 ?_); (case s1 => exact len_ok rfl))
  | (with_reducible refine we_op ?_) | (with_reducible refine we_tup ?_) | (with_reducible refine we_lst ?_) | (with_reducible refine we_pur ?_) | (with_reducible refine we_cb ?_) | (with_reducible refine we_slA ?_)
  | (with_reducible refine we_wl (wl_slL ?_)) | (with_reducible refine wo_none ?_) | (with_reducible refine wo_some ?_)
  | (with_reducible refine wd_cons ?_) | (with_reducible refine wd_nil ?_)
  | (with_reducible refine ve_and ?_) | (with_reducible refine ve_or ?_) | (with_reducible refine ve_not ?_) | (with_reducible refine ve_if ?_)
  | (with_reducible refine vt_and ?_) | (with_reducible refine vt_or ?_) | (with_reducible refine wt_not ?_) | (with_reducible refine wt_testB ?_) | (with_reducible refine wt_truB ?_)
  | (with_reducible refine od_int0 ?_) | ((with_reducible refine od_int ?s1 ?_); (case s1 => first | assumption | decide | exact ⟨by decide, by decide⟩)) | ((with_reducible show OD _ (rIx _) (.list _) (.int _) _); refine od_ix_l rfl ?_) | ((with_reducible show OD _ (rIx _) (.tuple _) (.int _) _); refine od_ix_t rfl ?_) | ((with_reducible show WG _ (gSub (tVar _) _ _) _ _ _ _); refine wg_sub rfl ?_) | (with_reducible refine od_bl0 ?_)
  | ((with_reducible show WE _ (tC _) _ _ _); refine we_con (d := ?wd) ?wc0 ?_; (case wc0 => assumption))
  | (with_reducible refine OD.or1 (od_eqS ?_)) | (with_reducible refine OD.or1 (od_neS ?_)) | (with_reducible refine od_isN ?_) | (with_reducible refine od_notN ?_)
  | ((with_reducible refine OD.or2 (od_eqD ?s1 ?s2 ?_)); (case s1 => first | assumption | exact rfl | decide +kernel); (case s2 => first | assumption | exact rfl | decide +kernel)) | ((with_reducible refine OD.or2 (od_neD ?s1 ?s2 ?_)); (case s1 => first | assumption | exact rfl | decide +kernel); (case s2 => first | assumption | exact rfl | decide +kernel))
  | ((with_reducible refine od_inT ?s1 ?s2 ?_); (case s1 => first | assumption | exact rfl | decide +kernel); (case s2 => first | assumption | exact rfl | decide +kernel)) | ((with_reducible refine od_notInT ?s1 ?s2 ?_); (case s1 => first | assumption | exact rfl | decide +kernel); (case s2 => first | assumption | exact rfl | decide +kernel))
  | (with_reducible refine cd_abs ?_) | (with_reducible refine cd_int ?_) | (with_reducible refine cd_max2 ?_) | (with_reducible refine cd_min2 ?_) | (with_reducible refine cd_lenL ?_) | (with_reducible refine cd_lenT ?_)
  | (with_reducible refine And.intro (fun hT => ?_) (fun hT => ?_))
  | ((with_reducible refine Exists.intro ?wc (And.intro ?we ?_)); (case we => exact rfl))
  | ((with_reducible show ∃ (_ : Int) (_ : Nat) (_ : List D), _); refine ⟨_, _, _, rfl, rfl, rfl, ?_⟩)
  | ((with_reducible refine And.intro ?we ?_); (case we => first | exact rfl | exact trivial | exact len_ok rfl | exact ⟨_, rfl⟩ | exact ⟨_, _, rfl⟩ | exact ⟨_, _, rfl, rfl⟩ | exact ⟨_, _, _, rfl⟩ | exact ⟨_, rfl, by assumption⟩ | exact ⟨_, by assumption, rfl⟩ | assumption)))
local macro_rules | `(tactic| walk_at "wp") => `(tactic| repeat' (first | walk_at "wp0" | fail))

/-! ### sorted texts are one list -/
theorem lt_irr : ∀ a : List Nat, ltCps a a = false
  | [] => rfl
  | x :: r => by simp [ltCps, lt_irr r]
theorem lt_asym : ∀ a b : List Nat, ltCps a b = false → ltCps b a = false → a = b
  | [], [], _, _ => rfl
  | [], _ :: _, h, _ => by cases h
  | _ :: _, [], _, h => by cases h
  | x :: r, y :: t, h, g => by
    simp only [ltCps, Bool.or_eq_false_iff, Bool.and_eq_false_iff, decide_eq_false_iff_not, beq_eq_false_iff_ne] at h g
    have e : x = y := by omega
    subst e
    rw [lt_asym r t (h.2.resolve_left fun z => z rfl) (g.2.resolve_left fun z => z rfl)]
theorem lt_trans' : ∀ a b c : List Nat, ltCps b a = false → ltCps c b = false → ltCps c a = false
  | [], _, [], _, _ => rfl
  | [], _, _ :: _, _, _ => rfl
  | _ :: _, [], _, h, _ => by cases h
  | _ :: _, _ :: _, [], _, g => by cases g
  | x :: r, y :: t, z :: s, h, g => by
    simp only [ltCps, Bool.or_eq_false_iff, Bool.and_eq_false_iff, decide_eq_false_iff_not, beq_eq_false_iff_ne] at h g ⊢
    refine ⟨by omega, ?_⟩
    by_cases e : z = x
    · have e1 : y = x := by omega
      subst e1
      subst e
      exact .inr (lt_trans' r t s (h.2.resolve_left fun z => z rfl) (g.2.resolve_left fun z => z rfl))
    · exact .inl e
abbrev leS (a b : Str) : Prop := ltCps (tl b) (tl a) = false
theorem ris_pw : ∀ (ys : List Str) (x : Str), risingS x ys = true → (x :: ys).Pairwise leS
  | [], x, _ => by simp
  | y :: r, x, h => by
    have h' : (!ltCps y.cps.toList x.cps.toList && risingS y r) = true := h
    rw [Bool.and_eq_true, Bool.not_eq_true'] at h'
    have ih := ris_pw r y h'.2
    rw [List.pairwise_cons]
    refine ⟨fun z hz => ?_, ih⟩
    rcases List.mem_cons.mp hz with rfl | hz
    · exact h'.1
    · exact lt_trans' _ _ _ h'.1 ((List.pairwise_cons.mp ih).1 z hz)
theorem sort_pw {ys : List Str} (h : sortedS ys = true) : ys.Pairwise leS := by
  cases ys with
  | nil => exact .nil
  | cons x r => exact ris_pw r x h
theorem sorted_uni {xs ys zs : List Str} (hy : ys.Perm xs) (hz : zs.Perm xs) (sy : sortedS ys = true) (sz : sortedS zs = true) : ys = zs :=
  List.Perm.eq_of_pairwise (fun a b _ _ h1 h2 => (ext_tl (lt_asym _ _ h1 h2)).symm) (sort_pw sy) (sort_pw sz) (hy.trans hz.symm)
/-! ### words that are put together -/
abbrev sw (cs : List (Str × Str)) : List (Str × Str) := cs.map fun p => (p.2, p.1)
theorem sw_keys (cs : List (Str × Str)) : (sw cs).map (·.1) = cs.map (·.2) := by rw [List.map_map]; rfl
theorem get_mem : ∀ {cs : List (Str × Str)} {x : Str} {d : D}, getP (wps cs) x = some d → ∃ a, d = .str a ∧ (x, a) ∈ cs
  | [], _, _, h => nomatch h
  | q :: r, x, d, h => by
    have h' : (if q.1 = x then some (.str q.2) else getP (wps r) x) = some d := h
    by_cases e : q.1 = x
    · rw [if_pos e] at h'
      cases h'
      exact ⟨q.2, rfl, by rw [← e]; exact List.mem_cons_self⟩
    · rw [if_neg e] at h'
      obtain ⟨a, h1, h2⟩ := get_mem h'
      exact ⟨a, h1, List.mem_cons_of_mem _ h2⟩
theorem get_sw {cs : List (Str × Str)} (hc : CodeP cs) {p : Str × Str} (hp : p ∈ cs) : getP (wps (sw cs)) p.2 = some (.str p.1) :=
  get_of (p := (p.2, p.1)) (by rw [sw_keys]; exact hc.nw) (List.mem_map.mpr ⟨p, hp, rfl⟩)
theorem mem_sw {cs : List (Str × Str)} {x a : Str} (h : (x, a) ∈ sw cs) : (a, x) ∈ cs := by
  obtain ⟨p, hp, e⟩ := List.mem_map.mp h
  cases e
  exact hp
def brk (cs : List (Str × Str)) (w : Str) : List Str := cs.flatMap fun p => cs.filterMap fun q => if p.2 ++ q.2 = w then some (p.1 ++ q.1) else none
def cutA (cs : List (Str × Str)) (w : Str) (i : Nat) : Option Str := match getP (wps (sw cs)) ⟨((tl w).take i).toArray⟩, getP (wps (sw cs)) ⟨((tl w).drop i).toArray⟩ with
  | some (.str a), some (.str b) => some (a ++ b)
  | _, _ => none
def cut (cs : List (Str × Str)) (w : Str) : List Str := (List.range' 1 (w.length - 1)).filterMap (cutA cs w)
theorem one_app {cs : List (Str × Str)} (hc : CodeP cs) {p q p' q' : Str × Str} (hp : p ∈ cs) (hq : q ∈ cs) (hp' : p' ∈ cs) (hq' : q' ∈ cs) (e : p.1 ++ q.1 = p'.1 ++ q'.1) : p.1 = p'.1 ∧ q.1 = q'.1 := by
  obtain ⟨a, ea, _⟩ := hc.lt p hp
  obtain ⟨b, eb, _⟩ := hc.lt q hq
  obtain ⟨a', ea', _⟩ := hc.lt p' hp'
  obtain ⟨b', eb', _⟩ := hc.lt q' hq'
  have h := congrArg tl e
  rw [tl_append, tl_append, ea, eb, ea', eb'] at h
  have h2 : [a, b] = [a', b'] := h
  cases h2
  rw [ea, eb, ea', eb']
  exact ⟨rfl, rfl⟩
theorem pw_of {cs : List (Str × Str)} (nd : (cs.map (·.1)).Nodup) : cs.Pairwise fun p q => p.1 ≠ q.1 := by
  unfold List.Nodup at nd
  rw [List.pairwise_map] at nd
  exact nd
theorem pw_mem {α : Type} {R : α → α → Prop} : ∀ {l : List α}, l.Pairwise R → l.Pairwise fun a b => a ∈ l ∧ b ∈ l ∧ R a b
  | [], _ => .nil
  | x :: r, h => by
    rw [List.pairwise_cons] at h ⊢
    refine ⟨fun y hy => ⟨by simp, by simp [hy], h.1 y hy⟩, (pw_mem h.2).imp fun ⟨h1, h2, h3⟩ => ⟨by simp [h1], by simp [h2], h3⟩⟩
theorem brk_nd {cs : List (Str × Str)} {w : Str} (hc : CodeP cs) : (brk cs w).Nodup := by
  unfold brk List.Nodup
  rw [List.pairwise_flatMap]
  refine ⟨fun p hp => ?_, ?_⟩
  · rw [List.pairwise_filterMap]
    refine (pw_mem (pw_of hc.nd)).imp fun ⟨h1, h2, h3⟩ b hb b' hb' e => ?_
    split at hb
    · split at hb'
      · cases hb; cases hb'
        exact h3 (one_app hc hp h1 hp h2 e).2
      · cases hb'
    · cases hb
  · refine (pw_mem (pw_of hc.nd)).imp fun ⟨h1, h2, h3⟩ x hx y hy e => ?_
    obtain ⟨q, hq, ex⟩ := List.mem_filterMap.mp hx
    obtain ⟨q', hq', ey⟩ := List.mem_filterMap.mp hy
    split at ex
    · split at ey
      · cases ex; cases ey
        exact h3 (one_app hc h1 hq h2 hq' e).1
      · cases ey
    · cases ex
theorem cutA_some {cs : List (Str × Str)} {w x : Str} {i : Nat} (h : cutA cs w i = some x) : ∃ p ∈ cs, ∃ q ∈ cs, x = p.1 ++ q.1 ∧ tl p.2 = (tl w).take i ∧ tl q.2 = (tl w).drop i := by
  unfold cutA at h
  split at h
  · rename_i a b h1 h2
    cases h
    obtain ⟨_, e1, m1⟩ := get_mem h1
    obtain ⟨_, e2, m2⟩ := get_mem h2
    cases e1; cases e2
    exact ⟨_, mem_sw m1, _, mem_sw m2, rfl, rfl, rfl⟩
  · cases h
theorem cut_nd {cs : List (Str × Str)} {w : Str} (hc : CodeP cs) : (cut cs w).Nodup := by
  unfold cut List.Nodup
  rw [List.pairwise_filterMap]
  refine (pw_mem (List.nodup_range' (s := 1) (n := w.length - 1))).imp fun {i j} ⟨h1, h2, h3⟩ b hb b' hb' e => h3 ?_
  subst e
  obtain ⟨p, hp, q, hq, e1, e2, e3⟩ := cutA_some hb
  obtain ⟨p', hp', q', hq', f1, f2, f3⟩ := cutA_some hb'
  have e := (one_app hc hp hq hp' hq' (e1.symm.trans f1)).1
  have e4 : (p.1, p.2) = (p'.1, p'.2) := by
    have g1 := get_of hc.nd hp
    have g2 := get_of hc.nd hp'
    rw [← e, g1] at g2
    have g3 : p.2 = p'.2 := PyData.str.inj (Option.some.inj g2)
    rw [e, g3]
  have e5 := congrArg (fun z : Str × Str => (tl z.2).length) e4
  simp only [e2, f2, List.length_take] at e5
  rw [List.mem_range'_1] at h1 h2
  rw [← len_tl] at e5
  omega
theorem brk_cut {cs : List (Str × Str)} {w : Str} (hc : CodeP cs) : (brk cs w).Perm (cut cs w) := by
  refine (List.perm_ext_iff_of_nodup (brk_nd hc) (cut_nd hc)).mpr fun x => ⟨fun h => ?_, fun h => ?_⟩
  · obtain ⟨p, hp, h⟩ := List.mem_flatMap.mp h
    obtain ⟨q, hq, h⟩ := List.mem_filterMap.mp h
    split at h
    · rename_i ew
      cases h
      obtain ⟨_, p1, _⟩ := hc.wo p hp
      obtain ⟨_, q1, _⟩ := hc.wo q hq
      have et : tl w = tl p.2 ++ tl q.2 := by rw [← ew, tl_append]
      have lw : w.length = p.2.length + q.2.length := by rw [← ew]; exact Str.length_append _ _
      refine List.mem_filterMap.mpr ⟨p.2.length, by rw [List.mem_range'_1]; omega, ?_⟩
      have t1 : (⟨((tl w).take p.2.length).toArray⟩ : Str) = p.2 := by
        rw [et, len_tl, List.take_left' rfl]
      have t2 : (⟨((tl w).drop p.2.length).toArray⟩ : Str) = q.2 := by
        rw [et, len_tl, List.drop_left' rfl]
      unfold cutA
      rw [t1, t2, get_sw hc hp, get_sw hc hq]
    · cases h
  · obtain ⟨i, hi, h⟩ := List.mem_filterMap.mp h
    obtain ⟨p, hp, q, hq, rfl, e2, e3⟩ := cutA_some h
    refine List.mem_flatMap.mpr ⟨p, hp, List.mem_filterMap.mpr ⟨q, hq, if_pos (ext_tl ?_)⟩⟩
    rw [tl_append, e2, e3, List.take_append_drop]
theorem cut_le7 {cs : List (Str × Str)} {w : Str} : (cut cs w).length ≤ w.length - 1 := by
  unfold cut
  have := List.length_filterMap_le (cutA cs w) (List.range' 1 (w.length - 1))
  rw [List.length_range'] at this
  exact this
end K29

set_option Elab.async false
set_option linter.all false
set_option maxRecDepth 100000
set_option maxHeartbeats 2000000
set_option exponentiation.threshold 500
namespace K29
open PySem L2 Evl PySem.Spec PyProof.Rows PW TL
local macro_rules | `(tactic| walk_at "wp0") => `(tactic| first
  | (with_reducible refine wb_seq ?_) | (with_reducible refine wb_asg ?_) | (with_reducible refine wg_name ?_) | (with_reducible refine wb_ret ?_) | (with_reducible refine vb_if ?_) | (with_reducible refine wb_next ?_) | (with_reducible refine wb_drop ?_) | (with_reducible refine wb_retN ?_)
  | ((with_reducible show WG _ (gTup _ _ _) _ _ _ _); refine wg_tup rfl ?_) | (with_reducible refine wgs_cons ?_) | ((with_reducible show WGs _ (gCons _ _) _ _ _ _); refine wgs_cons ?_) | (with_reducible refine wgs_nil ?_) | ((with_reducible show WGs _ gNil _ _ _ _); refine wgs_nil ?_)
  | ((with_reducible show WE _ (tVar _) _ _ _); refine we_var rfl ?_)
  | (with_reducible refine we_int ?_) | (with_reducible refine we_str ?_) | (with_reducible refine we_bl ?_) | (with_reducible refine we_non ?_)
  | (with_reducible refine we_isi kit_int ?_) | (with_reducible refine we_isi kit_bool ?_) | (with_reducible refine we_isi kit_str ?_) | (with_reducible refine we_isi kit_tup ?_) | (with_reducible refine we_isi kit_lst ?_)
  | ((with_reducible show WE _ (tOp (rIx _) (tVar _) (tC _)) _ _ _); refine we_ixO rfl rfl rfl ?_)
  | ((with_reducible show WE _ (tOp (rCatS _) _ _) _ _ _); refine we_wl (wl_op ?_)) | ((with_reducible refine ol_cat ?s1 ?_); (case s1 => exact len_ok rfl)) | ((with_reducible refine od_catA ?s1 ?_); (case s1 => exact len_ok rfl))
  | (with_reducible refine we_op ?_) | (with_reducible refine we_tup ?_) | (with_reducible refine we_lst ?_) | (with_reducible refine we_pur ?_) | (with_reducible refine we_cb ?_) | (with_reducible refine we_slA ?_)
  | (with_reducible refine we_wl (wl_slL ?_)) | (with_reducible refine wo_none ?_) | (with_reducible refine wo_some ?_)
  | (with_reducible refine wd_cons ?_) | (with_reducible refine wd_nil ?_)
  | (with_reducible refine ve_and ?_) | (with_reducible refine ve_or ?_) | (with_reducible refine ve_not ?_) | (with_reducible refine ve_if ?_)
  | (with_reducible refine vt_and ?_) | (with_reducible refine vt_or ?_) | (with_reducible refine wt_not ?_) | (with_reducible refine wt_testB ?_) | (with_reducible refine wt_truB ?_)
  | (with_reducible refine od_int0 ?_) | ((with_reducible refine od_int ?s1 ?_); (case s1 => first | assumption | decide | exact ⟨by decide, by decide⟩)) | ((with_reducible show OD _ (rIx _) (.list _) (.int _) _); refine od_ix_l rfl ?_) | ((with_reducible show OD _ (rIx _) (.tuple _) (.int _) _); refine od_ix_t rfl ?_) | ((with_reducible show WG _ (gSub (tVar _) _ _) _ _ _ _); refine wg_sub rfl ?_) | (with_reducible refine od_bl0 ?_)
  | ((with_reducible show WE _ (tC _) _ _ _); refine we_con (d := ?wd) ?wc0 ?_; (case wc0 => assumption))
  | (with_reducible refine OD.or1 (od_eqS ?_)) | (with_reducible refine OD.or1 (od_neS ?_)) | (with_reducible refine od_isN ?_) | (with_reducible refine od_notN ?_)
  | ((with_reducible refine OD.or2 (od_eqD ?s1 ?s2 ?_)); (case s1 => first | assumption | exact rfl | decide +kernel); (case s2 => first | assumption | exact rfl | decide +kernel)) | ((with_reducible refine OD.or2 (od_neD ?s1 ?s2 ?_)); (case s1 => first | assumption | exact rfl | decide +kernel); (case s2 => first | assumption | exact rfl | decide +kernel))
  | ((with_reducible refine od_inT ?s1 ?s2 ?_); (case s1 => first | assumption | exact rfl | decide +kernel); (case s2 => first | assumption | exact rfl | decide +kernel)) | ((with_reducible refine od_notInT ?s1 ?s2 ?_); (case s1 => first | assumption | exact rfl | decide +kernel); (case s2 => first | assumption | exact rfl | decide +kernel))
  | (with_reducible refine cd_abs ?_) | (with_reducible refine cd_int ?_) | (with_reducible refine cd_max2 ?_) | (with_reducible refine cd_min2 ?_) | (with_reducible refine cd_lenL ?_) | (with_reducible refine cd_lenT ?_)
  | (with_reducible refine And.intro (fun hT => ?_) (fun hT => ?_))
  | ((with_reducible refine Exists.intro ?wc (And.intro ?we ?_)); (case we => exact rfl))
  | ((with_reducible show ∃ (_ : Int) (_ : Nat) (_ : List D), _); refine ⟨_, _, _, rfl, rfl, rfl, ?_⟩)
  | ((with_reducible refine And.intro ?we ?_); (case we => first | exact rfl | exact trivial | exact len_ok rfl | exact ⟨_, rfl⟩ | exact ⟨_, _, rfl⟩ | exact ⟨_, _, rfl, rfl⟩ | exact ⟨_, _, _, rfl⟩ | exact ⟨_, rfl, by assumption⟩ | exact ⟨_, by assumption, rfl⟩ | assumption)))
local macro_rules | `(tactic| walk_at "wp") => `(tactic| repeat' (first | walk_at "wp0" | fail))

section
variable {K : Fg} {δ : Dl} {M : Ms} {g g1 : TG} {tt1 : TT} {te : TE} {vs vs1 : List Nat} {es : List D}
/-- the outer turns, when each adds f d -/
theorem comp2_fm {R : List D → Ms → Prop} (f : D → List D) : ∀ (ds acc : List D), (∀ d ∈ ds, WC K g vs d δ M fun δ1 => ∀ (acc : List D) (RR : List D → Ms → Prop), acc.length ≤ 2000 → RR (acc ++ f d) M → comp K g1 tt1 te vs1 es (wipeD δ1 vs1) M acc RR) → (∀ d ∈ ds, (f d).length ≤ 40) → acc.length + 40 * ds.length ≤ 2000 → R (acc ++ ds.flatMap f) M → comp2 K g g1 tt1 te vs vs1 es ds δ M acc R
  | [], acc, _, _, _, q => by
    rw [List.flatMap_nil, List.append_nil] at q
    exact q
  | d :: r, acc, h, hl, ha, q => by
    intro σ H Hd ls v Q a dv k
    refine h d (by simp) σ H Hd ls v Q a dv fun δ' σ' a' l' j' h' => k δ' σ' a' l' j' (h' acc _ (by omega) ?_)
    have h1 := hl d (by simp)
    rw [List.length_cons] at ha
    refine comp2_fm f r (acc ++ f d) (fun e he => h e (by simp [he])) (fun e he => hl e (by simp [he])) (by rw [List.length_append]; omega) ?_
    rw [List.flatMap_cons, ← List.append_assoc] at q
    exact q
end
def fi (cs : List (Str × Str)) (w : Str) (d e : D) : Option D := match d, e with
  | .str x, .str y => (match getP (wps cs) x, getP (wps cs) y with
    | some (.str a), some (.str b) => if a ++ b = w then some (.str (x ++ y)) else none
    | _, _ => none)
  | _, _ => none
theorem fi_at {cs : List (Str × Str)} {w : Str} (nd : (cs.map (·.1)).Nodup) {p q : Str × Str} (hp : p ∈ cs) (hq : q ∈ cs) : fi cs w (.str p.1) (.str q.1) = if p.2 ++ q.2 = w then some (PyData.str (p.1 ++ q.1)) else none := by
  show (match getP (wps cs) p.1, getP (wps cs) q.1 with
    | some (.str a), some (.str b) => if a ++ b = w then some (PyData.str (p.1 ++ q.1)) else none
    | _, _ => none) = _
  rw [get_of nd hp, get_of nd hq]
theorem fi_in {cs : List (Str × Str)} {w : Str} (nd : (cs.map (·.1)).Nodup) {p : Str × Str} (hp : p ∈ cs) : ∀ qs : List (Str × Str), (∀ q ∈ qs, q ∈ cs) → ((wps qs).map fun p => PyData.str p.1).filterMap (fi cs w (.str p.1)) = (qs.filterMap fun q => if p.2 ++ q.2 = w then some (p.1 ++ q.1) else none).map PyData.str
  | [], _ => rfl
  | q :: r, h => by
    have h1 := fi_at (w := w) nd hp (h q (by simp))
    have h2 := fi_in (w := w) nd hp r fun x hx => h x (by simp [hx])
    show (PyData.str q.1 :: ((wps r).map fun p => PyData.str p.1)).filterMap (fi cs w (.str p.1)) = _
    rw [List.filterMap_cons, h1, List.filterMap_cons]
    by_cases e : p.2 ++ q.2 = w
    · rw [if_pos e, if_pos e, List.map_cons, ← h2]
    · rw [if_neg e, if_neg e]
      exact h2
theorem fi_all {cs : List (Str × Str)} {w : Str} (nd : (cs.map (·.1)).Nodup) : ((wps cs).map fun p => PyData.str p.1).flatMap (fun d => ((wps cs).map fun p => PyData.str p.1).filterMap (fi cs w d)) = (brk cs w).map PyData.str := by
  have key : ∀ ps : List (Str × Str), (∀ p ∈ ps, p ∈ cs) → ((wps ps).map fun p => PyData.str p.1).flatMap (fun d => ((wps cs).map fun p => PyData.str p.1).filterMap (fi cs w d)) = (ps.flatMap fun p => cs.filterMap fun q => if p.2 ++ q.2 = w then some (p.1 ++ q.1) else none).map PyData.str := by
    intro ps
    induction ps with
    | nil => intro _; rfl
    | cons p r ih =>
      intro h
      have h1 := fi_in (w := w) nd (h p (by simp)) cs fun _ h => h
      have h2 := ih fun x hx => h x (by simp [hx])
      show (PyData.str p.1 :: ((wps r).map fun p => PyData.str p.1)).flatMap _ = _
      rw [List.flatMap_cons, List.flatMap_cons, List.map_append, ← h2, ← h1]
  exact key cs fun _ h => h
/-! ### words of a text of letters -/
def wrdOf (cs : List (Str × Str)) (x : Str) : Str := match getP (wps cs) x with
  | some (.str z) => z
  | _ => ""
def InC (cs : List (Str × Str)) (t : Str) : Prop := ∀ c ∈ tl t, (⟨#[c]⟩ : Str) ∈ cs.map (·.1)
def glue (cs : List (Str × Str)) (t : Str) : Str := Txt.join "" ((tl t).map fun c => wrdOf cs ⟨#[c]⟩)
theorem wrd_at {cs : List (Str × Str)} (nd : (cs.map (·.1)).Nodup) {p : Str × Str} (hp : p ∈ cs) : wrdOf cs p.1 = p.2 := by
  unfold wrdOf
  rw [get_of nd hp]
theorem in_at {cs : List (Str × Str)} {x : Str} (h : x ∈ cs.map (·.1)) : ∃ w, (x, w) ∈ cs := by
  obtain ⟨p, hp, rfl⟩ := List.mem_map.mp h
  exact ⟨p.2, hp⟩
theorem tl_glue2 (xs : List Str) : tl (Txt.join "" xs) = (xs.map tl).flatten := tl_glue xs
/-- the letter that has a word, or None -/
def who (cs : List (Str × Str)) (z : Str) : D := match cs.find? (fun p => p.2 == z) with
  | some p => .str p.1
  | none => .none
theorem who_in {cs : List (Str × Str)} (nw : (cs.map (·.2)).Nodup) {p : Str × Str} (hp : p ∈ cs) : who cs p.2 = .str p.1 := by
  unfold who
  induction cs with
  | nil => cases hp
  | cons q r ih =>
    rw [List.map_cons, List.nodup_cons] at nw
    rw [List.find?_cons]
    rcases List.mem_cons.mp hp with rfl | hp
    · rw [beq_self_eq_true]
    · have hne : (q.2 == p.2) = false := by
        simp only [beq_eq_false_iff_ne]
        exact fun e => nw.1 (by rw [e]; exact List.mem_map_of_mem hp)
      rw [hne]
      exact ih nw.2 hp
theorem who_no {cs : List (Str × Str)} {z : Str} (h : z ∉ cs.map (·.2)) : who cs z = .none := by
  unfold who
  rw [List.find?_eq_none.mpr fun p hp => by
    simp only [beq_iff_eq]
    exact fun e => h (by rw [← e]; exact List.mem_map_of_mem hp)]
end K29

set_option Elab.async false
set_option linter.all false
set_option maxRecDepth 100000
set_option maxHeartbeats 2000000
set_option exponentiation.threshold 500
namespace K29
open PySem L2 Evl PySem.Spec PyProof.Rows PW TL
local macro_rules | `(tactic| walk_at "wp0") => `(tactic| first
  | (with_reducible refine wb_seq ?_) | (with_reducible refine wb_asg ?_) | (with_reducible refine wg_name ?_) | (with_reducible refine wb_ret ?_) | (with_reducible refine vb_if ?_) | (with_reducible refine wb_next ?_) | (with_reducible refine wb_drop ?_) | (with_reducible refine wb_retN ?_)
  | ((with_reducible show WG _ (gTup _ _ _) _ _ _ _); refine wg_tup rfl ?_) | (with_reducible refine wgs_cons ?_) | ((with_reducible show WGs _ (gCons _ _) _ _ _ _); refine wgs_cons ?_) | (with_reducible refine wgs_nil ?_) | ((with_reducible show WGs _ gNil _ _ _ _); refine wgs_nil ?_)
  | ((with_reducible show WE _ (tVar _) _ _ _); refine we_var rfl ?_)
  | (with_reducible refine we_int ?_) | (with_reducible refine we_str ?_) | (with_reducible refine we_bl ?_) | (with_reducible refine we_non ?_)
  | (with_reducible refine we_isi kit_int ?_) | (with_reducible refine we_isi kit_bool ?_) | (with_reducible refine we_isi kit_str ?_) | (with_reducible refine we_isi kit_tup ?_) | (with_reducible refine we_isi kit_lst ?_)
  | ((with_reducible show WE _ (tOp (rIx _) (tVar _) (tC _)) _ _ _); refine we_ixO rfl rfl rfl ?_)
  | ((with_reducible show WE _ (tOp (rCatS _) _ _) _ _ _); refine we_wl (wl_op ?_)) | ((with_reducible refine ol_cat ?s1 ?_); (case s1 => exact len_ok rfl)) | ((with_reducible refine od_catA ?s1 ?_); (case s1 => exact len_ok rfl))
  | (with_reducible refine we_op ?_) | (with_reducible refine we_tup ?_) | (with_reducible refine we_lst ?_) | (with_reducible refine we_pur ?_) | (with_reducible refine we_cb ?_) | (with_reducible refine we_slA ?_)
  | (with_reducible refine we_wl (wl_slL ?_)) | (with_reducible refine wo_none ?_) | (with_reducible refine wo_some ?_)
  | (with_reducible refine wd_cons ?_) | (with_reducible refine wd_nil ?_)
  | (with_reducible refine ve_and ?_) | (with_reducible refine ve_or ?_) | (with_reducible refine ve_not ?_) | (with_reducible refine ve_if ?_)
  | (with_reducible refine vt_and ?_) | (with_reducible refine vt_or ?_) | (with_reducible refine wt_not ?_) | (with_reducible refine wt_testB ?_) | (with_reducible refine wt_truB ?_)
  | (with_reducible refine od_int0 ?_) | ((with_reducible refine od_int ?s1 ?_); (case s1 => first | assumption | decide | exact ⟨by decide, by decide⟩)) | ((with_reducible show OD _ (rIx _) (.list _) (.int _) _); refine od_ix_l rfl ?_) | ((with_reducible show OD _ (rIx _) (.tuple _) (.int _) _); refine od_ix_t rfl ?_) | ((with_reducible show WG _ (gSub (tVar _) _ _) _ _ _ _); refine wg_sub rfl ?_) | (with_reducible refine od_bl0 ?_)
  | ((with_reducible show WE _ (tC _) _ _ _); refine we_con (d := ?wd) ?wc0 ?_; (case wc0 => assumption))
  | (with_reducible refine OD.or1 (od_eqS ?_)) | (with_reducible refine OD.or1 (od_neS ?_)) | (with_reducible refine od_isN ?_) | (with_reducible refine od_notN ?_)
  | ((with_reducible refine OD.or2 (od_eqD ?s1 ?s2 ?_)); (case s1 => first | assumption | exact rfl | decide +kernel); (case s2 => first | assumption | exact rfl | decide +kernel)) | ((with_reducible refine OD.or2 (od_neD ?s1 ?s2 ?_)); (case s1 => first | assumption | exact rfl | decide +kernel); (case s2 => first | assumption | exact rfl | decide +kernel))
  | ((with_reducible refine od_inT ?s1 ?s2 ?_); (case s1 => first | assumption | exact rfl | decide +kernel); (case s2 => first | assumption | exact rfl | decide +kernel)) | ((with_reducible refine od_notInT ?s1 ?s2 ?_); (case s1 => first | assumption | exact rfl | decide +kernel); (case s2 => first | assumption | exact rfl | decide +kernel))
  | (with_reducible refine cd_abs ?_) | (with_reducible refine cd_int ?_) | (with_reducible refine cd_max2 ?_) | (with_reducible refine cd_min2 ?_) | (with_reducible refine cd_lenL ?_) | (with_reducible refine cd_lenT ?_)
  | (with_reducible refine And.intro (fun hT => ?_) (fun hT => ?_))
  | ((with_reducible refine Exists.intro ?wc (And.intro ?we ?_)); (case we => exact rfl))
  | ((with_reducible show ∃ (_ : Int) (_ : Nat) (_ : List D), _); refine ⟨_, _, _, rfl, rfl, rfl, ?_⟩)
  | ((with_reducible refine And.intro ?we ?_); (case we => first | exact rfl | exact trivial | exact len_ok rfl | exact ⟨_, rfl⟩ | exact ⟨_, _, rfl⟩ | exact ⟨_, _, rfl, rfl⟩ | exact ⟨_, _, _, rfl⟩ | exact ⟨_, rfl, by assumption⟩ | exact ⟨_, by assumption, rfl⟩ | assumption)))
local macro_rules | `(tactic| walk_at "wp") => `(tactic| repeat' (first | walk_at "wp0" | fail))

local macro_rules | `(tactic| walk_at "sp0") => `(tactic| first
  | ((with_reducible refine And.intro (fun hT => ?_) (fun hT => ?_)) <;> (first | (exact absurd (show false = true from hT) Bool.false_ne_true) | (exact absurd (show true = false from hT) tnf) | skip))
  | ((with_reducible show PW.WE _ (tSl rSlS _ _ _) _ _ _); refine we_slS ?_)
  | walk_at "wp0")
local macro_rules | `(tactic| walk_at "sp") => `(tactic| repeat' (first | walk_at "sp0" | fail))
section
variable {P : Program} {w : World} {K : Fg} {mg : Str → Option Value} {base : Heap}
def brkS : FL := fun ds R => ∃ cs l w, ds = [wd cs, .str l] ∧ CodeP cs ∧ (l, w) ∈ cs ∧ ∀ ys, ys.Perm (brk cs w) → sortedS ys = true → R (ys.map PyData.str)
theorem brk_le {cs : List (Str × Str)} {w : Str} (hc : CodeP cs) (hw : w.length ≤ 8) : (brk cs w).length ≤ 7 := by
  rw [(brk_cut hc).length_eq]
  have := cut_le7 (cs := cs) (w := w)
  omega
theorem ok_broken (T : Tx K mg) : FnG P w K mg base 5 T.f_broken T.d_broken ["code", "letter"] (SpL K brkS) := by
  have G_check_code := ok_check (P := P) (w := w) (base := base) T
  refine fg_lst T.F_broken sc_broken (fun ds R h => ?_) fun cdv A outer s H E hr hg => ⟨_, (pss_cons (ps_expr (pg_call G_check_code (hr.mono (by decide)) hg rfl T.m_check_code T.F_check_code.kp T.b_check_code (pa_cons (pv 0) pa_nil))) (pss_cons (ps_if (PW.pt (pw_or (pt_not (pt_truth (pe_callB call_isi (by rfl) T.n_isinstance (by decide +kernel) (pa_cons (pv 1) (pa_cons (pe_bltn (v := .ty "str") (by rfl) T.n_str (by decide +kernel) rfl) pa_nil))) (by intro _; rfl))) (pw_or1 (pt_cmp (pc_dnotin (hu_of hr) (pv 1) (pv 0)) (by rfl))))) (pss_one ps_never) pss_nil) (pss_cons (ps_set (i := 2) sc_broken.nd rfl (Or.inr rfl) (pe_dget (hu_of hr) (pv 0) (pv 1) (fun _ _ => rfl))) (pss_one (ps_ret (pe_callB cr_sortedS (by rfl) T.n_sorted (by decide +kernel) (pa_cons (pe_lk (pe_lc2 (own := [("one", 3), ("other", 4)]) (vs1 := [4]) rfl sc_broken.nd (pi_keys (pv 0)) (blkOk_by (own := [("one", 3), ("other", 4)]) (N := ["code", "letter", "word", "one", "other"]) (sc := defScope s_broken) (by decide +kernel)) (by decide) (fun _ _ _ _ _ => (pg_name (i := 3) sc_broken.nd rfl (Or.inl rfl))) (fun _ _ _ _ _ => pts_nil) (fun _ _ _ _ _ => (pi_keys (pv 0))) (fun _ _ _ _ _ => (pg_name (i := 4) sc_broken.nd rfl (Or.inl rfl))) (fun _ _ _ _ _ => (pts_one (pt_cmpR (op_eq.or (eqK (K := K) rfl (u65 hr))) (pe_op op_add_str (pe_dget (hu_of hr) (pv 0) (pv 3) (fun _ _ => rfl)) (pe_dget (hu_of hr) (pv 0) (pv 4) (fun _ _ => rfl))) (pv 2) (nomark _)))) (fun _ _ _ _ _ => (pe_op op_add_str (pv 3) (pv 4))))) pa_nil))))))), fun ds R h => ?_⟩
  · obtain ⟨cs, l, z, rfl, _⟩ := h
    rfl
  try simp only [nox_K, cxo_K]
  obtain ⟨cs, l, z, rfl, hc, hm, hR⟩ := h
  have hhi := hc.hi
  have hg1 := get_of hc.nd hm
  obtain ⟨_, hz1, hz8⟩ := hc.wo _ hm
  have big := lt_ok (n := 5001) rfl
  refine wbl_seq ?_
  walk_at "sp"
  refine wbl_seq ?_
  walk_at "sp"
  refine wt_B (we_dnotinD rfl (we_var rfl ⟨_, rfl, ?_⟩))
  rw [hg1]
  walk_at "sp"
  refine wbl_seq (wb_asg (we_dgetD rfl (we_var rfl ⟨_, _, rfl, hg1, wg_name ?_⟩)))
  refine wbl_ret (wl_cb (wd_cons (we_wl (wl_lc2K (ps := wps cs) rfl (by decide) (comp2_fm (fun d => ((wps cs).map fun p => PyData.str p.1).filterMap (fi cs z d)) _ [] (fun d hd => ?_) (fun d hd => ?_) (by simp only [List.length_nil, List.length_map]; omega) ?_)))))
  · obtain ⟨p0, hp0, rfl⟩ := List.mem_map.mp hd
    obtain ⟨p, hp, rfl⟩ := List.mem_map.mp hp0
    refine wc_name (by decide) fun acc RR hacc hRR => ?_
    refine comp_fm (f := fi cs z (.str p.1)) _ acc (fun e he => ?_) (by simp only [List.length_map]; omega) hRR
    obtain ⟨q0, hq0, rfl⟩ := List.mem_map.mp he
    obtain ⟨q, hq, rfl⟩ := List.mem_map.mp hq0
    have e := fi_at (w := z) hc.nd hp hq
    obtain ⟨_, _, p8⟩ := hc.wo p hp
    obtain ⟨_, _, q8⟩ := hc.wo q hq
    obtain ⟨_, ep, _⟩ := hc.lt p hp
    obtain ⟨_, eq, _⟩ := hc.lt q hq
    have lp : p.1.length = 1 := by rw [ep]; rfl
    have lq : q.1.length = 1 := by rw [eq]; rfl
    refine wc_name (by decide) ?_
    refine wt_B (we_op (we_op (we_dgetD rfl (we_var rfl ⟨_, _, rfl, get_of hc.nd hp, ?_⟩))))
    refine we_dgetD rfl (we_var rfl ⟨_, _, rfl, get_of hc.nd hq, ?_⟩)
    refine od_addS (by omega) ?_
    refine we_var rfl (OD.or1 (od_eqS ?_))
    refine ⟨_, rfl, fun h => ?_, fun h => ?_⟩
    · rw [if_pos (by simpa using h)] at e
      exact we_op (we_var rfl (we_var rfl (od_addS (show p.1.length + q.1.length ≤ sizeLine by omega) ⟨rfl, e⟩)))
    · rw [if_neg (by simpa using h)] at e
      exact ⟨rfl, e⟩
  · have := List.length_filterMap_le (fi cs z d) ((wps cs).map fun p => PyData.str p.1)
    rw [List.length_map, List.length_map] at this
    omega
  · rw [List.nil_append, fi_all hc.nd]
    exact wd_nil (cl_sortS (by have := brk_le (w := z) hc hz8; omega) hR)
def joinS : FS := fun cs M R => ∃ ps t, cs = [.dat (wd ps), .dat (.str t)] ∧ M = [] ∧ CodeP ps ∧ InC ps t ∧ t.length ≤ 4000 ∧ R (who ps (glue ps t)) []
def wrD (cs : List (Str × Str)) (d : D) : D := match d with
  | .str x => .str (wrdOf cs x)
  | _ => .none
theorem wr_len {cs : List (Str × Str)} (hc : CodeP cs) {x : Str} (h : x ∈ cs.map (·.1)) : (wrdOf cs x).length ≤ 8 := by
  obtain ⟨w, hm⟩ := in_at h
  rw [wrd_at hc.nd hm]
  exact (hc.wo _ hm).2.2
theorem sum_le {xs : List Str} (h : ∀ x ∈ xs, x.length ≤ 8) : (xs.map fun x => x.length).sum ≤ 8 * xs.length := by
  induction xs with
  | nil => simp
  | cons x r ih =>
    have h1 := h x (by simp)
    have h2 := ih fun y hy => h y (by simp [hy])
    rw [List.map_cons, List.sum_cons, List.length_cons]
    omega
theorem ok_joined (T : Tx K mg) : FnG P w K mg base 5 T.f_joined_letter T.d_joined_letter ["code", "text"] (SpF K joinS) := by
  have G_check_code := ok_check (P := P) (w := w) (base := base) T
  refine fgok T.F_joined_letter sc_joined_letter (fun cs M R h => ?_) fun cdv A outer s1 H E hr hg => ⟨_, (pss_cons (ps_expr (pg_call G_check_code (hr.mono (by decide)) hg rfl T.m_check_code T.F_check_code.kp T.b_check_code (pa_cons (pv 0) pa_nil))) (pss_cons (ps_if (PW.pt (pw_or (pt_not (pt_truth (pe_callB call_isi (by rfl) T.n_isinstance (by decide +kernel) (pa_cons (pv 1) (pa_cons (pe_bltn (v := .ty "str") (by rfl) T.n_str (by decide +kernel) rfl) pa_nil))) (by intro _; rfl))) (pw_or1 (pt_not (pt_truth (pe_callB (cr_all rfl) (by rfl) T.n_all (by decide +kernel) (pa_cons (pe_lc (own := [("letter", 3)]) rfl sc_joined_letter.nd (pi_str (pv 1)) (blkOk_by (own := [("letter", 3)]) (N := ["code", "text", "word", "letter"]) (sc := defScope s_joined_letter) (by decide +kernel)) (fun _ _ _ _ _ => (pg_name (i := 3) sc_joined_letter.nd rfl (Or.inl rfl))) (fun _ _ _ _ _ => pts_nil) (fun _ _ _ _ _ => (pe_cmp (pc_din (hu_of hr) (pv 3) (pv 0)) (by rfl)))) pa_nil)) (by intro _; rfl)))))) (pss_one ps_never) pss_nil) (pss_cons (ps_set (i := 2) sc_joined_letter.nd rfl (Or.inl rfl) (pe_m1 PySem.F.slot_str_join PySem.F.type_str_join mt_joinK pe_str (pe_lc (own := [("letter", 3)]) rfl sc_joined_letter.nd (pi_str (pv 1)) (blkOk_by (own := [("letter", 3)]) (N := ["code", "text", "word", "letter"]) (sc := defScope s_joined_letter) (by decide +kernel)) (fun _ _ _ _ _ => (pg_name (i := 3) sc_joined_letter.nd rfl (Or.inl rfl))) (fun _ _ _ _ _ => pts_nil) (fun _ _ _ _ _ => (pe_dget (hu_of hr) (pv 0) (pv 3) (fun _ _ => rfl)))))) (pss_cons (ps_lkS (ps_for PassesOwn.never rfl (pi_keys (pv 0)) (pg_name (i := 3) sc_joined_letter.nd rfl (Or.inl rfl)) (pss_one (ps_if (pt_cmpR (op_eq.or (op_eqD (u65 hr))) (pe_dget (hu_of hr) (pv 0) (pv 3) (fun _ _ => rfl)) (pv 2) (nomark _)) (pss_one (ps_ret (pv 3))) pss_nil)))) (pss_one (ps_ret pe_non)))))), fun cs M R h => ?_⟩
  · obtain ⟨cs, t, rfl, _⟩ := h
    rfl
  try simp only [nox_K, cxo_K]
  obtain ⟨cs, t, rfl, rfl, hc, hin, htl, hR⟩ := h
  have hhi := hc.hi
  have big := lt_ok (n := 50001) rfl
  have l0 : ("" : Str).length = 0 := by decide +kernel
  have ht : (tl t).length = t.length := (len_tl t).symm
  refine wb_seq ?_
  walk_at "sp"
  refine we_wl (wl_lcS (we_var rfl ⟨_, rfl, ?_⟩))
  refine comp_fmap (f := fun _ => .bool true) _ [] (fun d hd => ?_) (by simp only [List.length_nil, List.length_map]; rw [ht]; omega) ?_
  · obtain ⟨c, hcm, rfl⟩ := List.mem_map.mp hd
    obtain ⟨z, hz⟩ := in_at (hin c hcm)
    refine wc_name (by decide) (we_dinD rfl (we_var rfl ⟨_, rfl, rfl, ?_⟩))
    rw [get_of hc.nd hz]
    rfl
  rw [List.nil_append]
  have eb : (((tl t).map fun c => PyData.str ⟨#[c]⟩).map fun _ => PyData.bool true) = ((tl t).map fun _ => true).map PyData.bool := by
    rw [List.map_map, List.map_map]
    rfl
  have ea : (((tl t).map fun _ => true).all id) = true := by simp
  walk_at "sp"
  refine (show CD K (rAll K) [.list (((tl t).map fun c => PyData.str ⟨#[c]⟩).map fun _ => PyData.bool true)] _ from ?_)
  rw [eb]
  refine cd_all ?_
  rw [ea]
  walk_at "sp"
  refine we_join (we_str ⟨_, rfl, ?_⟩)
  refine we_wl (wl_lcS (we_var rfl ⟨_, rfl, ?_⟩))
  refine comp_fmap (f := wrD cs) _ [] (fun d hd => ?_) (by simp only [List.length_nil, List.length_map]; rw [ht]; omega) ?_
  · obtain ⟨c, hcm, rfl⟩ := List.mem_map.mp hd
    obtain ⟨z, hz⟩ := in_at (hin c hcm)
    refine wc_name (by decide) (we_dgetD rfl (we_var rfl ⟨_, _, rfl, get_of hc.nd hz, rfl, ?_⟩))
    show PyData.str (wrdOf cs ⟨#[c]⟩) = _
    rw [wrd_at hc.nd hz]
  rw [List.nil_append]
  refine ⟨(tl t).map fun c => wrdOf cs ⟨#[c]⟩, ?_, ?_, wg_name ?_⟩
  · rw [List.map_map, List.map_map]
    rfl
  · have h1 := sum_le (xs := (tl t).map fun c => wrdOf cs ⟨#[c]⟩) fun x hx => by
      obtain ⟨c, hcm, rfl⟩ := List.mem_map.mp hx
      exact wr_len hc (hin c hcm)
    rw [List.length_map, ht] at h1
    rw [l0, List.length_map, ht]
    omega
  show WB _ _ _ [some (.dat (wd cs)), some (.dat (.str t)), some (.dat (.str (glue cs t))), none] _ _
  generalize glue cs t = z at hR
  refine wb_seq (wb_forK (ps := wps cs) rfl ?_)
  refine turns_inv (fun j δ' M' => ∃ c3, δ' = [some (.dat (wd cs)), some (.dat (.str t)), some (.dat (.str z)), c3] ∧ M' = [] ∧ ∀ p ∈ cs.take j, p.2 ≠ z) ⟨none, rfl, rfl, fun p h => nomatch h⟩ ?_ ?_
  · rintro j dd _ _ hj ⟨c3, rfl, rfl, hno⟩
    rw [List.getElem?_map, List.getElem?_map, Option.map_map] at hj
    obtain ⟨p, hjp, rfl⟩ := Option.map_eq_some_iff.mp hj
    have hp := List.mem_of_getElem? hjp
    clear hj
    refine wg_name ?_
    refine vb_if (wt_B (we_op (we_dgetD rfl (we_var rfl ⟨_, _, rfl, get_of hc.nd hp, we_var rfl (OD.or1 (od_eqS ?_))⟩))))
    refine ⟨_, rfl, fun h => ?_, fun h => ?_⟩
    · have e : p.2 = z := by simpa using h
      refine wb_ret (we_var rfl ?_)
      rw [← e, who_in hc.nw hp] at hR
      exact hR
    · have e : p.2 ≠ z := by simpa using h
      refine wb_next ⟨_, rfl, rfl, fun q hq => ?_⟩
      rw [List.take_succ, hjp] at hq
      rcases List.mem_append.mp hq with hq | hq
      · exact hno q hq
      · have : q = p := by simpa using hq
        rw [this]; exact e
  · rintro _ _ ⟨c3, rfl, rfl, hno⟩
    rw [List.length_map, List.length_map, List.take_length] at hno
    have hw : who cs z = .none := who_no fun h => by
      obtain ⟨p, hp, e⟩ := List.mem_map.mp h
      exact hno p hp e
    rw [hw] at hR
    walk_at "sp"
    exact hR
end
end K29

set_option Elab.async false
set_option linter.all false
set_option maxRecDepth 100000
set_option maxHeartbeats 2000000
set_option exponentiation.threshold 500
namespace K29
open PySem L2 Evl PySem.Spec PyProof.Rows PW TL
local macro_rules | `(tactic| walk_at "wp0") => `(tactic| first
  | (with_reducible refine wb_seq ?_) | (with_reducible refine wb_asg ?_) | (with_reducible refine wg_name ?_) | (with_reducible refine wb_ret ?_) | (with_reducible refine vb_if ?_) | (with_reducible refine wb_next ?_) | (with_reducible refine wb_drop ?_) | (with_reducible refine wb_retN ?_)
  | ((with_reducible show WG _ (gTup _ _ _) _ _ _ _); refine wg_tup rfl ?_) | (with_reducible refine wgs_cons ?_) | ((with_reducible show WGs _ (gCons _ _) _ _ _ _); refine wgs_cons ?_) | (with_reducible refine wgs_nil ?_) | ((with_reducible show WGs _ gNil _ _ _ _); refine wgs_nil ?_)
  | ((with_reducible show WE _ (tVar _) _ _ _); refine we_var rfl ?_)
  | (with_reducible refine we_int ?_) | (with_reducible refine we_str ?_) | (with_reducible refine we_bl ?_) | (with_reducible refine we_non ?_)
  | (with_reducible refine we_isi kit_int ?_) | (with_reducible refine we_isi kit_bool ?_) | (with_reducible refine we_isi kit_str ?_) | (with_reducible refine we_isi kit_tup ?_) | (with_reducible refine we_isi kit_lst ?_)
  | ((with_reducible show WE _ (tOp (rIx _) (tVar _) (tC _)) _ _ _); refine we_ixO rfl rfl rfl ?_)
  | ((with_reducible show WE _ (tOp (rCatS _) _ _) _ _ _); refine we_wl (wl_op ?_)) | ((with_reducible refine ol_cat ?s1 ?_); (case s1 => exact len_ok rfl)) | ((with_reducible refine od_catA ?s1 ?_); (case s1 => exact len_ok rfl))
  | (with_reducible refine we_op ?_) | (with_reducible refine we_tup ?_) | (with_reducible refine we_lst ?_) | (with_reducible refine we_pur ?_) | (with_reducible refine we_cb ?_) | (with_reducible refine we_slA ?_)
  | (with_reducible refine we_wl (wl_slL ?_)) | (with_reducible refine wo_none ?_) | (with_reducible refine wo_some ?_)
  | (with_reducible refine wd_cons ?_) | (with_reducible refine wd_nil ?_)
  | (with_reducible refine ve_and ?_) | (with_reducible refine ve_or ?_) | (with_reducible refine ve_not ?_) | (with_reducible refine ve_if ?_)
  | (with_reducible refine vt_and ?_) | (with_reducible refine vt_or ?_) | (with_reducible refine wt_not ?_) | (with_reducible refine wt_testB ?_) | (with_reducible refine wt_truB ?_)
  | (with_reducible refine od_int0 ?_) | ((with_reducible refine od_int ?s1 ?_); (case s1 => first | assumption | decide | exact ⟨by decide, by decide⟩)) | ((with_reducible show OD _ (rIx _) (.list _) (.int _) _); refine od_ix_l rfl ?_) | ((with_reducible show OD _ (rIx _) (.tuple _) (.int _) _); refine od_ix_t rfl ?_) | ((with_reducible show WG _ (gSub (tVar _) _ _) _ _ _ _); refine wg_sub rfl ?_) | (with_reducible refine od_bl0 ?_)
  | ((with_reducible show WE _ (tC _) _ _ _); refine we_con (d := ?wd) ?wc0 ?_; (case wc0 => assumption))
  | (with_reducible refine OD.or1 (od_eqS ?_)) | (with_reducible refine OD.or1 (od_neS ?_)) | (with_reducible refine od_isN ?_) | (with_reducible refine od_notN ?_)
  | ((with_reducible refine OD.or2 (od_eqD ?s1 ?s2 ?_)); (case s1 => first | assumption | exact rfl | decide +kernel); (case s2 => first | assumption | exact rfl | decide +kernel)) | ((with_reducible refine OD.or2 (od_neD ?s1 ?s2 ?_)); (case s1 => first | assumption | exact rfl | decide +kernel); (case s2 => first | assumption | exact rfl | decide +kernel))
  | ((with_reducible refine od_inT ?s1 ?s2 ?_); (case s1 => first | assumption | exact rfl | decide +kernel); (case s2 => first | assumption | exact rfl | decide +kernel)) | ((with_reducible refine od_notInT ?s1 ?s2 ?_); (case s1 => first | assumption | exact rfl | decide +kernel); (case s2 => first | assumption | exact rfl | decide +kernel))
  | (with_reducible refine cd_abs ?_) | (with_reducible refine cd_int ?_) | (with_reducible refine cd_max2 ?_) | (with_reducible refine cd_min2 ?_) | (with_reducible refine cd_lenL ?_) | (with_reducible refine cd_lenT ?_)
  | (with_reducible refine And.intro (fun hT => ?_) (fun hT => ?_))
  | ((with_reducible refine Exists.intro ?wc (And.intro ?we ?_)); (case we => exact rfl))
  | ((with_reducible show ∃ (_ : Int) (_ : Nat) (_ : List D), _); refine ⟨_, _, _, rfl, rfl, rfl, ?_⟩)
  | ((with_reducible refine And.intro ?we ?_); (case we => first | exact rfl | exact trivial | exact len_ok rfl | exact ⟨_, rfl⟩ | exact ⟨_, _, rfl⟩ | exact ⟨_, _, rfl, rfl⟩ | exact ⟨_, _, _, rfl⟩ | exact ⟨_, rfl, by assumption⟩ | exact ⟨_, by assumption, rfl⟩ | assumption)))
local macro_rules | `(tactic| walk_at "wp") => `(tactic| repeat' (first | walk_at "wp0" | fail))

local macro_rules | `(tactic| walk_at "sp0") => `(tactic| first
  | ((with_reducible refine And.intro (fun hT => ?_) (fun hT => ?_)) <;> (first | (exact absurd (show false = true from hT) Bool.false_ne_true) | (exact absurd (show true = false from hT) tnf) | skip))
  | ((with_reducible show PW.WE _ (tSl rSlS _ _ _) _ _ _); refine we_slS ?_)
  | walk_at "wp0")
local macro_rules | `(tactic| walk_at "sp") => `(tactic| repeat' (first | walk_at "sp0" | fail))
section
variable {K : Fg} {n : Ent → Prop} {δ : Dl} {M M' : Ms} {P : Po} {t1 t2 t3 : TE}
/-- x, y, z = data, data, a fresh list -/
theorem wb_par3L {i j l : Nat} (h : PW.WE K t1 δ M fun x M1 => PW.WE K t2 δ M1 fun y M2 => WL K t3 δ M2 fun ds M3 => P.nx (((δ.set i (some (.dat x))).set j (some (.dat y))).set l (some (.own M3.length))) (M3 ++ [.lst ds])) : WB K n (tPar3 i j l (tCons t1 (tCons t2 (tCons t3 tNil)))) δ M P := fun e σ H Hd ls W hn r k1 k2 k3 k4 => by
  refine h σ H Hd ls _ r.sta fun v x M1 H1 Hd1 a1 s1 dv h1 => h1 σ H1 Hd1 ls _ a1 fun w y M2 H2 Hd2 a2 s2 dw h2 => h2 σ H2 Hd2 ls _ a2 fun p xs es M3 H3 Hd3 a3 s3 hp hd np hx dx q => ?_
  refine ⟨_, _, _, rfl, ?_⟩
  have r2 := r.go a2 (s1.trans s2)
  have r3 := r2.go a3 s3
  have r4 : PW.Run K e ((δ.set i (some (.dat x))).set j (some (.dat y))) M3 ((σ.set i (some v)).set j (some w)) H3 Hd3 ls := ⟨(r3.sta.put (dv.up (s2.trans s3).ext)).put (dw.up s3.ext), r3.step, r3.pre, r3.loc⟩
  have r5 := r4.adopt (i := l) (m := .lst es) ⟨hd, xs, hx, dx⟩ np (ent_none r2 hp)
  exact k1 _ _ _ _ Hd3 _ r5 ((s1.trans s2).trans s3).ext (List.prefix_append _ _) q
end
theorem cut_hd (w : Str) (i : Nat) : cutS w none (some (i : Int)) = ⟨((tl w).take i).toArray⟩ := by
  apply ext_tl
  have e1 : HT.sIx w.length 0 none = 0 := rfl
  have e2 : HT.sIx w.length w.length (some (i : Int)) = min i w.length := by
    simp only [HT.sIx]
    rw [if_neg (by omega)]
    omega
  rw [tl_cut, e1, e2, List.drop_zero, Nat.sub_zero, tl_mk, len_tl, ← List.take_eq_take_min]
theorem cut_tl (w : Str) (i : Nat) : cutS w (some (i : Int)) none = ⟨((tl w).drop i).toArray⟩ := by
  apply ext_tl
  have e1 : HT.sIx w.length 0 (some (i : Int)) = min i w.length := by
    simp only [HT.sIx]
    rw [if_neg (by omega)]
    omega
  have e2 : HT.sIx w.length w.length none = w.length := rfl
  rw [tl_cut, e1, e2, tl_mk, len_tl]
  by_cases h : i ≤ (tl w).length
  · rw [Nat.min_eq_left h, List.take_of_length_le (by rw [List.length_drop]; exact Nat.le_refl _)]
  · rw [Nat.min_eq_right (show (tl w).length ≤ i by omega), List.drop_of_length_le (Nat.le_refl _), List.drop_of_length_le (show (tl w).length ≤ i by omega), List.take_nil]
def swD (d : D) : D := match d with
  | .tuple [x, y] => .tuple [y, x]
  | x => x
theorem sw_items (cs : List (Str × Str)) : ((wps cs).map fun p => PyData.tuple [.str p.1, p.2]).map swD = (wps (sw cs)).map fun p => PyData.tuple [.str p.1, p.2] := by
  rw [List.map_map, List.map_map, List.map_map, List.map_map]
  rfl
section
variable {P : Program} {w : World} {K : Fg} {mg : Str → Option Value} {base : Heap}
theorem ok_lbroken (T : Tx K mg) : FnG P w K mg base 1 T.f_law_broken T.d_law_broken ["code", "letter"] (SpL K brkS) := by
  refine fg_lst T.F_law_broken sc_law_broken (fun ds R h => ?_) fun cdv A outer s H E hr hg => ⟨_, (pss_cons (ps_par3 (i := 3) (j := 4) (l := 5) (by rfl) sc_law_broken.nd rfl rfl rfl (by decide) (by decide) (by decide) rfl rfl rfl (pa_cons (pe_callTy (call_dictQ rfl) (by rfl) T.n_dict (by decide +kernel) (pa_cons (pe_lk (pe_lc (own := [("one", 6), ("word", 4)]) rfl sc_law_broken.nd (pi_items (pv 0)) (blkOk_by (own := [("one", 6), ("word", 4)]) (N := ["code", "letter", "at", "letters", "word", "found", "one"]) (sc := defScope s_law_broken) (by decide +kernel)) (fun _ _ _ _ _ => (pg_tupK 2 (K := K) rfl rfl (pgs_cons (pg_name (i := 6) sc_law_broken.nd rfl (Or.inl rfl)) (pgs_cons (pg_name (i := 4) sc_law_broken.nd rfl (Or.inl rfl)) pgs_nil)))) (fun _ _ _ _ _ => pts_nil) (fun _ _ _ _ _ => (pe_tup (pa_cons (pv 4) (pa_cons (pv 6) pa_nil)))))) pa_nil)) (pa_cons (pe_dget (hu_of hr) (pv 0) (pv 1) (fun _ _ => rfl)) (pa_cons (pe_lst pa_nil) pa_nil))) (by rfl)) (pss_cons (ps_for PassesOwn.never rfl (pi_range2 rfl T.n_range (pa_cons pe_int (pa_cons (pe_callB call_lenD (by rfl) T.n_len (by decide +kernel) (pa_cons (pv 4) pa_nil)) pa_nil))) (pg_name (i := 2) sc_law_broken.nd rfl (Or.inl rfl)) (pss_one (ps_if (PW.pt (pw_and (pt_cmp (pc_din (hu_of hr) (pe_slice sl_str (pv 4) po_none (po_some (pv 2))) (pv 3)) (by rfl)) (pw_and1 (pt_cmp (pc_din (hu_of hr) (pe_slice sl_str (pv 4) (po_some (pv 2)) po_none) (pv 3)) (by rfl))))) (pss_one (ps_expr (pe_bm PySem.F.plainAttrs_list PySem.F.slot_list_append PySem.F.type_list_append mt_append (pv 5) (pa_cons (pe_op op_add_str (pe_dget (hu_of hr) (pv 3) (pe_slice sl_str (pv 4) po_none (po_some (pv 2))) (fun _ _ => rfl)) (pe_dget (hu_of hr) (pv 3) (pe_slice sl_str (pv 4) (po_some (pv 2)) po_none) (fun _ _ => rfl))) pa_nil)))) pss_nil))) (pss_one (ps_ret (pe_callB cr_sortedS (by rfl) T.n_sorted (by decide +kernel) (pa_cons (pv 5) pa_nil)))))), fun ds R h => ?_⟩
  · obtain ⟨cs, l, z, rfl, _⟩ := h
    rfl
  try simp only [nox_K, cxo_K]
  obtain ⟨cs, l, z, rfl, hc, hm, hR⟩ := h
  have hhi := hc.hi
  have hg1 : getP (wps cs) l = some (.str z) := get_of hc.nd hm
  have hz1 : 1 ≤ z.length := (hc.wo _ hm).2.1
  have hz8 : z.length ≤ 8 := (hc.wo _ hm).2.2
  have big := lt_ok (n := 5001) rfl
  have hle := cut_le7 (cs := cs) (w := z)
  refine wbl_seq (wb_par3L (we_cb (wd_cons (we_wl (wl_lcI (ps := wps cs) rfl (comp_fmap (f := swD) _ [] (fun d hd => ?_) (by simp only [List.length_nil, List.length_map]; omega) ?_))))))
  · obtain ⟨p0, hp0, rfl⟩ := List.mem_map.mp hd
    obtain ⟨p, hp, rfl⟩ := List.mem_map.mp hp0
    refine wc_tup rfl (wcs_cons (wc_name (by decide) (wcs_cons (wc_name (by decide) (wcs_nil ?_)))))
    refine we_tup (wd_cons (we_var rfl (wd_cons (we_var rfl (wd_nil ⟨len_ok rfl, rfl, rfl⟩)))))
  rw [List.nil_append, sw_items]
  refine wd_nil (cd_dictP (lf_wps _) (by rw [keys_wps, sw_keys]; exact hc.nw) ?_)
  refine we_dgetD rfl (we_var rfl ⟨_, _, rfl, hg1, wl_lst (wd_nil ⟨len_ok rfl, ?_⟩)⟩)
  refine wbl_seq (wb_forR2 ?_)
  walk_at "sp"
  refine cd_lenS (by omega) ?_
  walk_at "sp"
  refine ⟨_, _, rfl, ⟨by decide, by decide, by omega, by omega⟩, ?_⟩
  refine turns_inv (fun j δ' M' => ∃ c2 : Option C, δ' = [some (.dat (wd cs)), some (.dat (.str l)), c2, some (.dat (wd (sw cs))), some (.dat (.str z)), some (.own 0), none] ∧ M' = [.lst (((List.range' 1 j).filterMap (cutA cs z)).map .str)]) ⟨none, rfl, rfl⟩ ?_ ?_
  · rintro j dd _ _ hj ⟨c2, rfl, rfl⟩
    have hjn : j < z.length - 1 := by
      have h3 := (List.getElem?_eq_some_iff.mp hj).1
      rw [nums_len] at h3
      omega
    obtain rfl : dd = .int ((1 + j : Nat) : Int) := by
      rw [nums_get (by omega)] at hj
      cases hj
      first | rfl | (congr 1; omega) | congr 1
    clear hj
    refine wg_name ?_
    have hc1 := cut_hd z (1 + j)
    have hc2 := cut_tl z (1 + j)
    have l1 := cut_le z none (some ((1 + j : Nat) : Int))
    have l2 := cut_le z (some ((1 + j : Nat) : Int)) none
    rw [hc1] at l1
    rw [hc2] at l2
    have er : List.range' 1 (j + 1) = List.range' 1 j ++ [1 + j] := by
      simp [List.range'_concat]
    have eA : cutA cs z (1 + j) = (match getP (wps (sw cs)) ⟨((tl z).take (1 + j)).toArray⟩, getP (wps (sw cs)) ⟨((tl z).drop (1 + j)).toArray⟩ with
      | some (.str a), some (.str b) => some (a ++ b)
      | _, _ => none) := rfl
    have hfl : ((List.range' 1 j).filterMap (cutA cs z)).length ≤ 8 := by
      have := List.length_filterMap_le (cutA cs z) (List.range' 1 j)
      rw [List.length_range'] at this
      omega
    generalize hx1 : (⟨((tl z).take (1 + j)).toArray⟩ : Str) = x1 at hc1 eA l1
    generalize hx2 : (⟨((tl z).drop (1 + j)).toArray⟩ : Str) = x2 at hc2 eA l2
    refine vb_if (vt_and (wt_B (we_dinD rfl (we_slS (we_var rfl (wo_none (wo_some (we_var rfl ⟨_, rfl, z, rfl, by omega, x1, by rw [hc1], ?_⟩))))))))
    cases h1 : getP (wps (sw cs)) x1 with
    | none =>
      rw [h1] at eA
      refine ⟨_, rfl, fun h => absurd (show false = true from h) Bool.false_ne_true, fun _ => ⟨fun h => absurd (show false = true from h) Bool.false_ne_true, fun _ => wb_next ⟨_, rfl, ?_⟩⟩⟩
      rw [er, List.filterMap_append, List.filterMap_cons, eA, List.filterMap_nil, List.append_nil]
    | some d1 =>
      obtain ⟨a1, rfl, m1⟩ := get_mem h1
      rw [h1] at eA
      refine ⟨_, rfl, fun _ => wt_B (we_dinD rfl (we_slS (we_var rfl (wo_some (we_var rfl ⟨_, rfl, wo_none ⟨z, rfl, by omega, x2, by rw [hc2], ?_⟩⟩))))), fun h => absurd (show true = false from h) tnf⟩
      cases h2 : getP (wps (sw cs)) x2 with
      | none =>
        rw [h2] at eA
        refine ⟨_, rfl, fun h => absurd (show false = true from h) Bool.false_ne_true, fun _ => wb_next ⟨_, rfl, ?_⟩⟩
        rw [er, List.filterMap_append, List.filterMap_cons, eA, List.filterMap_nil, List.append_nil]
      | some d2 =>
        obtain ⟨a2, rfl, m2⟩ := get_mem h2
        rw [h2] at eA
        refine ⟨_, rfl, fun _ => ?_, fun h => absurd (show true = false from h) tnf⟩
        obtain ⟨_, ea1, _⟩ := hc.lt _ (mem_sw m1)
        obtain ⟨_, ea2, _⟩ := hc.lt _ (mem_sw m2)
        have la1 : a1.length = 1 := by rw [show a1 = _ from ea1]; rfl
        have la2 : a2.length = 1 := by rw [show a2 = _ from ea2]; rfl
        refine wb_app (k := 0) rfl rfl (we_op (we_dgetD rfl (we_slS (we_var rfl (wo_none (wo_some (we_var rfl ⟨_, rfl, z, rfl, by omega, x1, .str a1, by rw [hc1], h1, ?_⟩)))))))
        refine we_dgetD rfl (we_slS (we_var rfl (wo_some (we_var rfl ⟨_, rfl, wo_none ⟨z, rfl, by omega, x2, .str a2, by rw [hc2], h2, ?_⟩⟩))))
        refine od_addS (by omega) ⟨_, rfl, by rw [List.length_map]; omega, _, rfl, ?_⟩
        rw [er, List.filterMap_append, List.filterMap_cons, eA, List.filterMap_nil, List.map_append]
        rfl
  · rintro _ _ ⟨c2, rfl, rfl⟩
    rw [nums_len]
    have en : ((z.length : Int) - 1).toNat = z.length - 1 := by omega
    refine wbl_ret (wl_look (wl_cb (wd_cons (we_var rfl (wd_nil (cl_sortS ?_ fun ys hp hs => ⟨flat_strs ys, hR ys ?_ hs⟩))))))
    · rw [en]
      have := cut_le7 (cs := cs) (w := z)
      unfold cut at this
      omega
    · rw [en] at hp
      exact hp.trans (brk_cut hc).symm
end
end K29

set_option Elab.async false
set_option linter.all false
set_option maxRecDepth 100000
set_option maxHeartbeats 4000000
set_option exponentiation.threshold 500
namespace K29
open PySem L2 Evl PySem.Spec PyProof.Rows PW TL
local macro_rules | `(tactic| walk_at "wp0") => `(tactic| first
  | (with_reducible refine wb_seq ?_) | (with_reducible refine wb_asg ?_) | (with_reducible refine wg_name ?_) | (with_reducible refine wb_ret ?_) | (with_reducible refine vb_if ?_) | (with_reducible refine wb_next ?_) | (with_reducible refine wb_drop ?_) | (with_reducible refine wb_retN ?_)
  | ((with_reducible show WG _ (gTup _ _ _) _ _ _ _); refine wg_tup rfl ?_) | (with_reducible refine wgs_cons ?_) | ((with_reducible show WGs _ (gCons _ _) _ _ _ _); refine wgs_cons ?_) | (with_reducible refine wgs_nil ?_) | ((with_reducible show WGs _ gNil _ _ _ _); refine wgs_nil ?_)
  | ((with_reducible show WE _ (tVar _) _ _ _); refine we_var rfl ?_)
  | (with_reducible refine we_int ?_) | (with_reducible refine we_str ?_) | (with_reducible refine we_bl ?_) | (with_reducible refine we_non ?_)
  | (with_reducible refine we_isi kit_int ?_) | (with_reducible refine we_isi kit_bool ?_) | (with_reducible refine we_isi kit_str ?_) | (with_reducible refine we_isi kit_tup ?_) | (with_reducible refine we_isi kit_lst ?_)
  | ((with_reducible show WE _ (tOp (rIx _) (tVar _) (tC _)) _ _ _); refine we_ixO rfl rfl rfl ?_)
  | ((with_reducible show WE _ (tOp (rCatS _) _ _) _ _ _); refine we_wl (wl_op ?_)) | ((with_reducible refine ol_cat ?s1 ?_); (case s1 => exact len_ok rfl)) | ((with_reducible refine od_catA ?s1 ?_); (case s1 => exact len_ok rfl))
  | (with_reducible refine we_op ?_) | (with_reducible refine we_tup ?_) | (with_reducible refine we_lst ?_) | (with_reducible refine we_pur ?_) | (with_reducible refine we_cb ?_) | (with_reducible refine we_slA ?_)
  | (with_reducible refine we_wl (wl_slL ?_)) | (with_reducible refine wo_none ?_) | (with_reducible refine wo_some ?_)
  | (with_reducible refine wd_cons ?_) | (with_reducible refine wd_nil ?_)
  | (with_reducible refine ve_and ?_) | (with_reducible refine ve_or ?_) | (with_reducible refine ve_not ?_) | (with_reducible refine ve_if ?_)
  | (with_reducible refine vt_and ?_) | (with_reducible refine vt_or ?_) | (with_reducible refine wt_not ?_) | (with_reducible refine wt_testB ?_) | (with_reducible refine wt_truB ?_)
  | (with_reducible refine od_int0 ?_) | ((with_reducible refine od_int ?s1 ?_); (case s1 => first | assumption | decide | exact ⟨by decide, by decide⟩)) | ((with_reducible show OD _ (rIx _) (.list _) (.int _) _); refine od_ix_l rfl ?_) | ((with_reducible show OD _ (rIx _) (.tuple _) (.int _) _); refine od_ix_t rfl ?_) | ((with_reducible show WG _ (gSub (tVar _) _ _) _ _ _ _); refine wg_sub rfl ?_) | (with_reducible refine od_bl0 ?_)
  | ((with_reducible show WE _ (tC _) _ _ _); refine we_con (d := ?wd) ?wc0 ?_; (case wc0 => assumption))
  | (with_reducible refine OD.or1 (od_eqS ?_)) | (with_reducible refine OD.or1 (od_neS ?_)) | (with_reducible refine od_isN ?_) | (with_reducible refine od_notN ?_)
  | ((with_reducible refine OD.or2 (od_eqD ?s1 ?s2 ?_)); (case s1 => first | assumption | exact rfl | decide +kernel); (case s2 => first | assumption | exact rfl | decide +kernel)) | ((with_reducible refine OD.or2 (od_neD ?s1 ?s2 ?_)); (case s1 => first | assumption | exact rfl | decide +kernel); (case s2 => first | assumption | exact rfl | decide +kernel))
  | ((with_reducible refine od_inT ?s1 ?s2 ?_); (case s1 => first | assumption | exact rfl | decide +kernel); (case s2 => first | assumption | exact rfl | decide +kernel)) | ((with_reducible refine od_notInT ?s1 ?s2 ?_); (case s1 => first | assumption | exact rfl | decide +kernel); (case s2 => first | assumption | exact rfl | decide +kernel))
  | (with_reducible refine cd_abs ?_) | (with_reducible refine cd_int ?_) | (with_reducible refine cd_max2 ?_) | (with_reducible refine cd_min2 ?_) | (with_reducible refine cd_lenL ?_) | (with_reducible refine cd_lenT ?_)
  | (with_reducible refine And.intro (fun hT => ?_) (fun hT => ?_))
  | ((with_reducible refine Exists.intro ?wc (And.intro ?we ?_)); (case we => exact rfl))
  | ((with_reducible show ∃ (_ : Int) (_ : Nat) (_ : List D), _); refine ⟨_, _, _, rfl, rfl, rfl, ?_⟩)
  | ((with_reducible refine And.intro ?we ?_); (case we => first | exact rfl | exact trivial | exact len_ok rfl | exact ⟨_, rfl⟩ | exact ⟨_, _, rfl⟩ | exact ⟨_, _, rfl, rfl⟩ | exact ⟨_, _, _, rfl⟩ | exact ⟨_, rfl, by assumption⟩ | exact ⟨_, by assumption, rfl⟩ | assumption)))
local macro_rules | `(tactic| walk_at "wp") => `(tactic| repeat' (first | walk_at "wp0" | fail))

section
variable {K : Fg} {n : Ent → Prop} {δ : Dl} {M M' : Ms} {P : Po} {t1 t2 : TE}
/-- x, y = two fresh lists -/
theorem wb_parOO {i j : Nat} (h : WL K t1 δ M fun ds M1 => WL K t2 δ M1 fun es M2 => P.nx ((δ.set i (some (.own M2.length))).set j (some (.own (M2.length + 1)))) (M2 ++ [.lst ds] ++ [.lst es])) : WB K n (tPar i j (tCons t1 (tCons t2 tNil))) δ M P := fun e σ H Hd ls W hn r k1 k2 k3 k4 => by
  refine h σ H Hd ls _ r.sta fun p1 xs1 es1 M1 H1 Hd1 a1 s1 hp1 hd1 n1 hx1 dx1 h1 => h1 σ H1 Hd1 ls _ a1 fun p2 xs2 es2 M2 H2 Hd2 a2 s2 hp2 hd2 n2 hx2 dx2 hb => ?_
  have e12 : H2 p1 = some (.lst xs1) := s2.old p1 _ hx1 n1
  have d12 : Hd2 p1 = none := s2.new p1 (by rw [hx1]; simp) hd1
  have ne12 : p1 ≠ p2 := fun z => by rw [← z, hx1] at hp2; cases hp2
  have s12 := s1.trans s2
  have r2 := r.go a2 s12
  have h2 : H p2 = none := by
    cases e0 : H p2 with
    | none => rfl
    | some o => exact absurd hp2 (s1.there p2 (by rw [e0]; simp))
  have r4 := r2.adopt (i := i) (m := .lst es1) ⟨d12, xs1, e12, dx1.up s2.ext⟩ n1 (ent_none r hp1)
  have nw2 : p2 ∉ ls ++ [p1] := fun z => by
    rcases List.mem_append.mp z with z | z
    · exact n2 z
    · exact ne12 (List.mem_singleton.mp z).symm
  have r5 := r4.adopt (i := j) (m := .lst es2) ⟨hd2, xs2, hx2, dx2⟩ nw2 (ent_none r h2)
  have e2 : (M2 ++ [MO.lst es1]).length = M2.length + 1 := by simp
  rw [e2] at r5
  refine ⟨_, _, rfl, ?_⟩
  exact k1 _ _ _ _ Hd2 _ r5 s12.ext ((List.prefix_append _ _).trans (List.prefix_append _ _)) hb
end
def seen1 (o : Option C) (M : Ms) : Option C := match o with
  | some (.own k) => (match M[k]? with
    | some (.lst ds) => some (.dat (.list ds))
    | _ => none)
  | x => x
/-! ### glue -/
theorem glue_one {cs : List (Str × Str)} (hc : CodeP cs) {p : Str × Str} (hp : p ∈ cs) : InC cs p.1 ∧ glue cs p.1 = p.2 ∧ p.1.length = 1 := by
  obtain ⟨c, e, _⟩ := hc.lt p hp
  have et : tl p.1 = [c] := by rw [e]
  refine ⟨fun d hd => ?_, ?_, by rw [len_tl, et]; rfl⟩
  · rw [et] at hd
    rw [List.mem_singleton.mp hd, ← e]
    exact List.mem_map_of_mem hp
  · unfold glue
    rw [et]
    show Txt.join "" [wrdOf cs ⟨#[c]⟩] = _
    rw [← e, wrd_at hc.nd hp]
    apply ext_tl
    rw [tl_glue2]
    simp
theorem glue_app (cs : List (Str × Str)) (a b : Str) : glue cs (a ++ b) = glue cs a ++ glue cs b := by
  apply ext_tl
  unfold glue
  rw [tl_append a b, tl_glue2, tl_append, tl_glue2, tl_glue2]
  simp
theorem inc_app {cs : List (Str × Str)} {a b : Str} (ha : InC cs a) (hb : InC cs b) : InC cs (a ++ b) := fun c hc => by
  rw [tl_append] at hc
  rcases List.mem_append.mp hc with h | h
  · exact ha c h
  · exact hb c h
/-- a text that is in the list of broken ones makes the word -/
theorem brk_glue {cs : List (Str × Str)} (hc : CodeP cs) {w x : Str} (h : x ∈ brk cs w) : InC cs x ∧ glue cs x = w ∧ x.length = 2 := by
  obtain ⟨p, hp, h⟩ := List.mem_flatMap.mp h
  obtain ⟨q, hq, h⟩ := List.mem_filterMap.mp h
  split at h
  · rename_i ew
    cases h
    obtain ⟨p1, p2, p3⟩ := glue_one hc hp
    obtain ⟨q1, q2, q3⟩ := glue_one hc hq
    exact ⟨inc_app p1 q1, by rw [glue_app, p2, q2, ew], by rw [Str.length_append, p3, q3]⟩
  · cases h
theorem brk_sml {cs : List (Str × Str)} (hc : CodeP cs) {w x : Str} (h : x ∈ brk cs w) : Sml x := fun c hcm => by
  obtain ⟨p, hp, e⟩ := List.mem_map.mp ((brk_glue hc h).1 c hcm)
  have := (sml_let (hc.lt p hp)).1
  rw [e] at this
  exact this c (by simp [tl])
theorem brk_rev (cs : List (Str × Str)) (hc : CodeP cs) (w : Str) : (brk cs.reverse w).Perm (brk cs w) := by
  refine (List.perm_ext_iff_of_nodup (brk_nd (code_rev hc)) (brk_nd hc)).mpr fun x => ?_
  unfold brk
  simp only [List.mem_flatMap, List.mem_filterMap, List.mem_reverse]
theorem glue_xs {cs : List (Str × Str)} (hc : CodeP cs) {xs : List Str} (h : ∀ x ∈ xs, x ∈ cs.map (·.1)) : InC cs (Txt.join "" xs) ∧ (Txt.join "" xs).length = xs.length := by
  have one : ∀ x ∈ cs.map (·.1), ∃ c, x = ⟨#[c]⟩ := fun x hx => by
    obtain ⟨p, hp, rfl⟩ := List.mem_map.mp hx
    obtain ⟨c, e, _⟩ := hc.lt p hp
    exact ⟨c, e⟩
  refine ⟨fun c hcm => ?_, ?_⟩
  · rw [tl_glue2] at hcm
    obtain ⟨l, hl, hcm⟩ := List.mem_flatten.mp hcm
    obtain ⟨x, hx, rfl⟩ := List.mem_map.mp hl
    obtain ⟨d, e⟩ := one x (h x hx)
    rw [e] at hcm
    rw [List.mem_singleton.mp hcm, ← e]
    exact h x hx
  · rw [len_tl, tl_glue2]
    induction xs with
    | nil => rfl
    | cons x r ih =>
      obtain ⟨d, e⟩ := one x (h x (by simp))
      have := ih fun y hy => h y (by simp [hy])
      have h1 : (tl x).length = 1 := by rw [e]; rfl
      rw [List.map_cons, List.flatten_cons, List.length_append, this, h1, List.length_cons]
      omega
theorem who_sw {cs : List (Str × Str)} (hc : CodeP cs) (z : Str) : (∃ a, getP (wps (sw cs)) z = some (.str a) ∧ who cs z = .str a ∧ a ∈ cs.map (·.1)) ∨ (getP (wps (sw cs)) z = none ∧ who cs z = .none) := by
  cases h : getP (wps (sw cs)) z with
  | none =>
    refine .inr ⟨rfl, who_no fun hm => ?_⟩
    obtain ⟨p, hp, e⟩ := List.mem_map.mp hm
    rw [← e, get_sw hc hp] at h
    cases h
  | some d =>
    obtain ⟨a, rfl, m⟩ := get_mem h
    exact .inl ⟨a, rfl, who_in hc.nw (mem_sw m), List.mem_map_of_mem (f := fun p : Str × Str => p.1) (mem_sw m)⟩
theorem shw_str {z : Str} (h : Sml z) (hl : z.length ≤ 100) : Shw (.str z) := by
  refine ⟨.inl (by simp only [PyData.hasDict]), by simp only [PyData.showable], by simp only [PyData.depth]; omega, ?_⟩
  have h1 := PyData.shown_le 40 (by decide) _ (lv_str h)
  have h2 : (PyData.str z).weight ≤ 100 := by simp only [PyData.weight]; exact hl
  have h3 : (40 + 2) * (PyData.str z).weight ≤ 42 * 100 := Nat.mul_le_mul_left _ h2
  have h9 := lt_ok (n := 50001) rfl
  omega
theorem shw_none : Shw .none := ⟨.inl (by simp only [PyData.hasDict]), by simp only [PyData.showable], by simp only [PyData.depth]; omega, by
  have h1 := PyData.shown_le 40 (by decide) .none (by simp only [PyData.leavesShort])
  have h2 : PyData.weight .none = 0 := by simp only [PyData.weight]
  rw [h2] at h1
  have h9 := lt_ok (n := 50001) rfl
  omega⟩
theorem ls_all : ∀ {ws : List Str}, (∀ x ∈ ws, Sml x ∧ x.length ≤ 2) → PyData.leavesShortAll 40 (ws.map .str) = true ∧ PyData.weightAll (ws.map .str) ≤ 3 * ws.length ∧ PyData.showableAll (ws.map .str) = true ∧ PyData.depthAll (ws.map .str) ≤ 0 ∧ PyData.hasDictAll (ws.map .str) = false ∧ PyData.canLayAll0 (ws.map .str) = true
  | [], _ => ⟨by simp [PyData.leavesShortAll], by simp [PyData.weightAll], by simp [PyData.showableAll], by simp [PyData.depthAll], by simp [PyData.hasDictAll], by simp [PyData.canLayAll0]⟩
  | x :: r, h => by
    obtain ⟨h1, h2, h3, h4, h5, h6⟩ := ls_all fun q hq => h q (List.mem_cons_of_mem x hq)
    obtain ⟨hl, hs⟩ := h x (by simp)
    rw [List.map_cons]
    refine ⟨?_, ?_, ?_, ?_, ?_, ?_⟩
    · simp only [PyData.leavesShortAll, lv_str hl, h1, Bool.and_self]
    · simp only [PyData.weightAll, PyData.weight, List.length_cons]
      have g1 : x.cps.size ≤ 2 := hs
      omega
    · simp only [PyData.showableAll, PyData.showable, h3, Bool.and_self]
    · simp only [PyData.depthAll, PyData.depth]
      omega
    · simp only [PyData.hasDictAll, PyData.hasDict, h5, Bool.or_self]
    · simp only [PyData.canLayAll0, lay_str hl, h6, Bool.and_self]
theorem shw_pair {ws : List Str} (h : ∀ x ∈ ws, Sml x ∧ x.length ≤ 2) (hl : ws.length ≤ 36) : Shw (.list [.list (ws.map .str), .list (ws.map .str)]) ∧ SeqAt.shaped (.list (ws.map .str)) = true := by
  obtain ⟨h1, h2, h3, h4, h5, h6⟩ := ls_all h
  refine ⟨⟨.inl (by simp only [PyData.hasDict, PyData.hasDictAll, h5, Bool.or_self]), ?_, ?_, ?_⟩, ?_⟩
  · simp only [PyData.showable, PyData.showableAll, h3, Bool.and_self]
  · simp only [PyData.depth, PyData.depthAll]; omega
  · have g5 : PyData.leavesShort 40 (.list [.list (ws.map .str), .list (ws.map .str)]) = true := by simp only [PyData.leavesShort, PyData.leavesShortAll, h1, Bool.and_self]
    have g6 := PyData.shown_le 40 (by decide) _ g5
    have g7 : (PyData.list [.list (ws.map .str), .list (ws.map .str)]).weight ≤ 300 := by simp only [PyData.weight, PyData.weightAll]; omega
    have g8 : (40 + 2) * (PyData.list [.list (ws.map .str), .list (ws.map .str)]).weight ≤ 42 * 300 := Nat.mul_le_mul_left _ g7
    have h9 := lt_ok (n := 50001) rfl
    omega
  · unfold SeqAt.shaped
    rw [Bool.and_eq_true]
    refine ⟨by simp only [PyData.canLay0]; exact h6, decide_eq_true ?_⟩
    simp only [PyData.depth]
    omega
end K29

set_option Elab.async false
set_option linter.all false
set_option maxRecDepth 100000
set_option maxHeartbeats 4000000
set_option exponentiation.threshold 500
namespace K29
open PySem L2 Evl PySem.Spec PyProof.Rows PW TL
local macro_rules | `(tactic| walk_at "wp0") => `(tactic| first
  | (with_reducible refine wb_seq ?_) | (with_reducible refine wb_asg ?_) | (with_reducible refine wg_name ?_) | (with_reducible refine wb_ret ?_) | (with_reducible refine vb_if ?_) | (with_reducible refine wb_next ?_) | (with_reducible refine wb_drop ?_) | (with_reducible refine wb_retN ?_)
  | ((with_reducible show WG _ (gTup _ _ _) _ _ _ _); refine wg_tup rfl ?_) | (with_reducible refine wgs_cons ?_) | ((with_reducible show WGs _ (gCons _ _) _ _ _ _); refine wgs_cons ?_) | (with_reducible refine wgs_nil ?_) | ((with_reducible show WGs _ gNil _ _ _ _); refine wgs_nil ?_)
  | ((with_reducible show WE _ (tVar _) _ _ _); refine we_var rfl ?_)
  | (with_reducible refine we_int ?_) | (with_reducible refine we_str ?_) | (with_reducible refine we_bl ?_) | (with_reducible refine we_non ?_)
  | (with_reducible refine we_isi kit_int ?_) | (with_reducible refine we_isi kit_bool ?_) | (with_reducible refine we_isi kit_str ?_) | (with_reducible refine we_isi kit_tup ?_) | (with_reducible refine we_isi kit_lst ?_)
  | ((with_reducible show WE _ (tOp (rIx _) (tVar _) (tC _)) _ _ _); refine we_ixO rfl rfl rfl ?_)
  | ((with_reducible show WE _ (tOp (rCatS _) _ _) _ _ _); refine we_wl (wl_op ?_)) | ((with_reducible refine ol_cat ?s1 ?_); (case s1 => exact len_ok rfl)) | ((with_reducible refine od_catA ?s1 ?_); (case s1 => exact len_ok rfl))
  | (with_reducible refine we_op ?_) | (with_reducible refine we_tup ?_) | (with_reducible refine we_lst ?_) | (with_reducible refine we_pur ?_) | (with_reducible refine we_cb ?_) | (with_reducible refine we_slA ?_)
  | (with_reducible refine we_wl (wl_slL ?_)) | (with_reducible refine wo_none ?_) | (with_reducible refine wo_some ?_)
  | (with_reducible refine wd_cons ?_) | (with_reducible refine wd_nil ?_)
  | (with_reducible refine ve_and ?_) | (with_reducible refine ve_or ?_) | (with_reducible refine ve_not ?_) | (with_reducible refine ve_if ?_)
  | (with_reducible refine vt_and ?_) | (with_reducible refine vt_or ?_) | (with_reducible refine wt_not ?_) | (with_reducible refine wt_testB ?_) | (with_reducible refine wt_truB ?_)
  | (with_reducible refine od_int0 ?_) | ((with_reducible refine od_int ?s1 ?_); (case s1 => first | assumption | decide | exact ⟨by decide, by decide⟩)) | ((with_reducible show OD _ (rIx _) (.list _) (.int _) _); refine od_ix_l rfl ?_) | ((with_reducible show OD _ (rIx _) (.tuple _) (.int _) _); refine od_ix_t rfl ?_) | ((with_reducible show WG _ (gSub (tVar _) _ _) _ _ _ _); refine wg_sub rfl ?_) | (with_reducible refine od_bl0 ?_)
  | ((with_reducible show WE _ (tC _) _ _ _); refine we_con (d := ?wd) ?wc0 ?_; (case wc0 => assumption))
  | (with_reducible refine OD.or1 (od_eqS ?_)) | (with_reducible refine OD.or1 (od_neS ?_)) | (with_reducible refine od_isN ?_) | (with_reducible refine od_notN ?_)
  | ((with_reducible refine OD.or2 (od_eqD ?s1 ?s2 ?_)); (case s1 => first | assumption | exact rfl | decide +kernel); (case s2 => first | assumption | exact rfl | decide +kernel)) | ((with_reducible refine OD.or2 (od_neD ?s1 ?s2 ?_)); (case s1 => first | assumption | exact rfl | decide +kernel); (case s2 => first | assumption | exact rfl | decide +kernel))
  | ((with_reducible refine od_inT ?s1 ?s2 ?_); (case s1 => first | assumption | exact rfl | decide +kernel); (case s2 => first | assumption | exact rfl | decide +kernel)) | ((with_reducible refine od_notInT ?s1 ?s2 ?_); (case s1 => first | assumption | exact rfl | decide +kernel); (case s2 => first | assumption | exact rfl | decide +kernel))
  | (with_reducible refine cd_abs ?_) | (with_reducible refine cd_int ?_) | (with_reducible refine cd_max2 ?_) | (with_reducible refine cd_min2 ?_) | (with_reducible refine cd_lenL ?_) | (with_reducible refine cd_lenT ?_)
  | (with_reducible refine And.intro (fun hT => ?_) (fun hT => ?_))
  | ((with_reducible refine Exists.intro ?wc (And.intro ?we ?_)); (case we => exact rfl))
  | ((with_reducible show ∃ (_ : Int) (_ : Nat) (_ : List D), _); refine ⟨_, _, _, rfl, rfl, rfl, ?_⟩)
  | ((with_reducible refine And.intro ?we ?_); (case we => first | exact rfl | exact trivial | exact len_ok rfl | exact ⟨_, rfl⟩ | exact ⟨_, _, rfl⟩ | exact ⟨_, _, rfl, rfl⟩ | exact ⟨_, _, _, rfl⟩ | exact ⟨_, rfl, by assumption⟩ | exact ⟨_, by assumption, rfl⟩ | assumption)))
local macro_rules | `(tactic| walk_at "wp") => `(tactic| repeat' (first | walk_at "wp0" | fail))

local macro_rules | `(tactic| walk_at "sp0") => `(tactic| first
  | ((with_reducible refine And.intro (fun hT => ?_) (fun hT => ?_)) <;> (first | (exact absurd (show false = true from hT) Bool.false_ne_true) | (exact absurd (show true = false from hT) tnf) | skip))
  | (with_reducible refine we_dip rfl ?_)
  | ((with_reducible refine cd_repr ?s1 ?_); (case s1 => assumption))
  | walk_at "wp0")
local macro_rules | `(tactic| walk_at "sp") => `(tactic| repeat' (first | walk_at "sp0" | fail))
section
variable {P : Program} {w : World} {K : Fg} {mg : Str → Option Value} {base : Heap}
def rightS : FS := fun cs M R => ∃ (a b c : Int) (ps : List (Str × Str)), cs = [.own 0, .dat (wd ps)] ∧ M = [.lst [.int a, .int b, .int c]] ∧ 0 ≤ a ∧ 0 ≤ b ∧ b < 2 ^ 200 ∧ 0 ≤ c ∧ c < 2 ^ 57 ∧ CodeP ps ∧
  ∀ a' c' : Int, 0 ≤ a' → c ≤ c' → c' ≤ c + 1000 → R (.bool true) [.lst [.int a', .int b, .int c']]
theorem ok_right (T : Tx K mg) : FnG P w K mg base 6 T.f_law_right T.d_law_right ["fount", "code"] (SpF K rightS) := by
  have G_law_dip := ok_spin (P := P) (w := w) (base := base) T
  have G_law_broken := ok_lbroken (P := P) (w := w) (base := base) T
  have G_broken := ok_broken (P := P) (w := w) (base := base) T
  have G_joined_letter := ok_joined (P := P) (w := w) (base := base) T
  refine fgok T.F_law_right sc_law_right (fun cs M R h => ?_) fun cdv A outer s1 H E hr hg => ⟨_, (pss_cons (ps_par (i := 6) (j := 7) (by rfl) sc_law_right.nd rfl rfl (by decide) rfl rfl (pa_cons (pe_callB (call_repr hr hg) (by rfl) T.n_repr (by decide +kernel) (pa_cons (pv 1) pa_nil)) (pa_cons (pe_callTy (call_dictQ rfl) (by rfl) T.n_dict (by decide +kernel) (pa_cons (pe_revL (pe_listIt rfl (pv 1) (by rfl) T.n_list rfl)) pa_nil)) pa_nil)) (by rfl)) (pss_cons (ps_set (i := 2) sc_law_right.nd rfl (Or.inl rfl) (pe_callTy (call_dictQ rfl) (by rfl) T.n_dict (by decide +kernel) (pa_cons (pe_lk (pe_lc (own := [("letter", 3), ("word", 9)]) rfl sc_law_right.nd (pi_items (pv 1)) (blkOk_by (own := [("letter", 3), ("word", 9)]) (N := ["fount", "code", "words", "letter", "names_here", "turn", "kept", "other", "text", "word", "due", "told", "lap"]) (sc := defScope s_law_right) (by decide +kernel)) (fun _ _ _ _ _ => (pg_tupK 2 (K := K) rfl rfl (pgs_cons (pg_name (i := 3) sc_law_right.nd rfl (Or.inl rfl)) (pgs_cons (pg_name (i := 9) sc_law_right.nd rfl (Or.inl rfl)) pgs_nil)))) (fun _ _ _ _ _ => pts_nil) (fun _ _ _ _ _ => (pe_tup (pa_cons (pv 9) (pa_cons (pv 3) pa_nil)))))) pa_nil))) (pss_cons (ps_lkS (ps_for PassesOwn.never rfl (pi_keys (pv 1)) (pg_name (i := 3) sc_law_right.nd rfl (Or.inl rfl)) (pss_cons (ps_par (i := 10) (j := 11) (by rfl) sc_law_right.nd rfl rfl (by decide) rfl rfl (pa_cons (pg_call G_law_broken (hr.mono (by decide)) hg rfl T.m_law_broken T.F_law_broken.kp T.b_law_broken (pa_cons (pv 1) (pa_cons (pv 3) pa_nil))) (pa_cons (pg_call G_broken (hr.mono (by decide)) hg rfl T.m_broken T.F_broken.kp T.b_broken (pa_cons (pv 1) (pa_cons (pv 3) pa_nil))) pa_nil)) (by rfl)) (pss_cons (ps_if (pt_cmpR (op_ne.or (op_neD (u65 hr))) (pe_callB (call_repr hr hg) (by rfl) T.n_repr (by decide +kernel) (pa_cons (pe_lst (pa_cons (pv 11) (pa_cons (pg_call G_broken (hr.mono (by decide)) hg rfl T.m_broken T.F_broken.kp T.b_broken (pa_cons (pv 7) (pa_cons (pv 3) pa_nil))) pa_nil))) pa_nil)) (pe_callB (call_repr hr hg) (by rfl) T.n_repr (by decide +kernel) (pa_cons (pe_lst (pa_cons (pv 10) (pa_cons (pv 10) pa_nil))) pa_nil)) (nomark _)) (pss_one (ps_ret pe_bl)) pss_nil) (pss_cons (ps_expr (pe_bm PySem.F.plainAttrs_list PySem.F.slot_list_append PySem.F.type_list_append mt_append (pv 11) (pa_cons pe_non pa_nil))) (pss_cons (ps_for PassesOwn.never rfl (pi_list (pv 10)) (pg_name (i := 8) sc_law_right.nd rfl (Or.inl rfl)) (pss_one (ps_if (pt_cmpR (op_ne.or (op_neD (u65 hr))) (pg_call G_joined_letter (hr.mono (by decide)) hg rfl T.m_joined_letter T.F_joined_letter.kp T.b_joined_letter (pa_cons (pv 1) (pa_cons (pv 8) pa_nil))) (pv 3) (nomark _)) (pss_one (ps_ret pe_bl)) pss_nil))) (pss_one (ps_if (PW.pt (pw_or (pt_cmpR (op_ne.or (op_neD (u65 hr))) (pg_call G_broken (hr.mono (by decide)) hg rfl T.m_broken T.F_broken.kp T.b_broken (pa_cons (pv 1) (pa_cons (pv 3) pa_nil))) (pv 10) (nomark _)) (pw_or1 (pt_cmpR (op_ne.or (op_neD (u65 hr))) (pg_call G_joined_letter (hr.mono (by decide)) hg rfl T.m_joined_letter T.F_joined_letter.kp T.b_joined_letter (pa_cons (pv 1) (pa_cons (pv 3) pa_nil))) (pv 3) (nomark _))))) (pss_one (ps_ret pe_bl)) pss_nil)))))))) (pss_cons (ps_set (i := 4) sc_law_right.nd rfl (Or.inr rfl) (pe_callTy (call_lstK rfl) (by rfl) T.n_list (by decide +kernel) (pa_cons (pv 1) pa_nil))) (pss_cons (ps_for PassesOwn.never rfl (pi_range1 rfl T.n_range (pa_cons pe_int pa_nil)) (pg_name (i := 5) sc_law_right.nd rfl (Or.inl rfl)) (pss_cons (ps_set (i := 8) sc_law_right.nd rfl (Or.inl rfl) (pe_m1 PySem.F.slot_str_join PySem.F.type_str_join mt_joinK pe_str (pe_lc (own := [("lap", 12)]) rfl sc_law_right.nd (pi_range1 rfl T.n_range (pa_cons (pg_call G_law_dip (hr.mono (by decide)) hg rfl T.m_law_dip T.F_law_dip.kp T.b_law_dip (pa_cons (pv 0) (pa_cons pe_int pa_nil))) pa_nil)) (blkOk_by (own := [("lap", 12)]) (N := ["fount", "code", "words", "letter", "names_here", "turn", "kept", "other", "text", "word", "due", "told", "lap"]) (sc := defScope s_law_right) (by decide +kernel)) (fun _ _ _ _ _ => (pg_name (i := 12) sc_law_right.nd rfl (Or.inl rfl))) (fun _ _ _ _ _ => pts_nil) (fun _ _ _ _ _ => (pe_ix (ixK (K := K) rfl) (pv 4) (pg_call G_law_dip (hr.mono (by decide)) hg rfl T.m_law_dip T.F_law_dip.kp T.b_law_dip (pa_cons (pv 0) (pa_cons (pe_callB call_lenR (by rfl) T.n_len (by decide +kernel) (pa_cons (pv 1) pa_nil)) pa_nil))) (fun _ _ => rfl)))))) (pss_cons (ps_set (i := 9) sc_law_right.nd rfl (Or.inl rfl) (pe_m1 PySem.F.slot_str_join PySem.F.type_str_join mt_joinK pe_str (pe_lc (own := [("letter", 3)]) rfl sc_law_right.nd (pi_str (pv 8)) (blkOk_by (own := [("letter", 3)]) (N := ["fount", "code", "words", "letter", "names_here", "turn", "kept", "other", "text", "word", "due", "told", "lap"]) (sc := defScope s_law_right) (by decide +kernel)) (fun _ _ _ _ _ => (pg_name (i := 3) sc_law_right.nd rfl (Or.inl rfl))) (fun _ _ _ _ _ => pts_nil) (fun _ _ _ _ _ => (pe_dget (hu_of hr) (pv 1) (pv 3) (fun _ _ => rfl)))))) (pss_one (ps_if (pt_cmpR (op_ne.or (op_neD (u65 hr))) (pe_callB (call_repr hr hg) (by rfl) T.n_repr (by decide +kernel) (pa_cons (pg_call G_joined_letter (hr.mono (by decide)) hg rfl T.m_joined_letter T.F_joined_letter.kp T.b_joined_letter (pa_cons (pv 1) (pa_cons (pv 8) pa_nil))) pa_nil)) (pe_callB (call_repr hr hg) (by rfl) T.n_repr (by decide +kernel) (pa_cons (pe_ifExp (pt_cmp (pc_din (hu_of hr) (pv 9) (pv 2)) (by rfl)) (pe_dget (hu_of hr) (pv 2) (pv 9) (fun _ _ => rfl)) pe_non) pa_nil)) (nomark _)) (pss_one (ps_ret pe_bl)) pss_nil))))) (pss_one (ps_ret (pe_and (pe_cmpR op_isN (pg_call G_joined_letter (hr.mono (by decide)) hg rfl T.m_joined_letter T.F_joined_letter.kp T.b_joined_letter (pa_cons (pv 1) (pa_cons pe_str pa_nil))) pe_non (nomark _)) (pe_one (pe_cmpR (op_eq.or (op_eqD (u65 hr))) (pe_callB (call_repr hr hg) (by rfl) T.n_repr (by decide +kernel) (pa_cons (pv 1) pa_nil)) (pv 6) (nomark _))))))))))), fun cs M R h => ?_⟩
  · obtain ⟨a, b, c, ps, rfl, _⟩ := h
    rfl
  try simp only [nox_K, cxo_K]
  obtain ⟨a, b, c, cs, rfl, rfl, ha, hb, hb2, hc, hc2, hcode, hR⟩ := h
  have big := lt_ok (n := 50001) rfl
  have hlo := hcode.lo
  have hhi := hcode.hi
  have hsh := shw_code hcode
  have hrev := code_rev hcode
  have l0 : ("" : Str).length = 0 := by decide +kernel
  refine wb_seq (wb_cut (Box fun δ' M' => δ' = [some (.own 0), some (.dat (wd cs)), none, none, none, none, some (.dat (.str (wd cs).shown)), some (.dat (wd cs.reverse)), none, none, none, none, none] ∧ M' = [.lst [.int a, .int b, .int c]]) ?_ ?_)
  · refine wb_par ?_
    walk_at "sp"
    refine we_wl (wl_rev (we_wl (wl_li rfl ⟨_, rfl, ?_⟩)))
    rw [items_rev]
    walk_at "sp"
    refine cd_dictP (lf_wps _) (by rw [keys_wps]; exact hrev.nd) ?_
    walk_at "sp"
    exact ⟨_, _, rfl, rfl, rfl⟩
  rintro _ _ ⟨rfl, rfl⟩
  refine wb_seq (wb_cut (Box fun δ' M' => δ' = [some (.own 0), some (.dat (wd cs)), some (.dat (wd (sw cs))), none, none, none, some (.dat (.str (wd cs).shown)), some (.dat (wd cs.reverse)), none, none, none, none, none] ∧ M' = [.lst [.int a, .int b, .int c]]) ?_ ?_)
  · refine wb_asg (we_cb (wd_cons (we_wl (wl_lcI (ps := wps cs) rfl (comp_fmap (f := swD) _ [] (fun d hd => ?_) (by simp only [List.length_nil, List.length_map]; omega) ?_)))))
    · obtain ⟨p0, hp0, rfl⟩ := List.mem_map.mp hd
      obtain ⟨p, hp, rfl⟩ := List.mem_map.mp hp0
      refine wc_tup rfl (wcs_cons (wc_name (by decide) (wcs_cons (wc_name (by decide) (wcs_nil ?_)))))
      refine we_tup (wd_cons (we_var rfl (wd_cons (we_var rfl (wd_nil ⟨len_ok rfl, rfl, rfl⟩)))))
    rw [List.nil_append, sw_items]
    refine wd_nil (cd_dictP (lf_wps _) (by rw [keys_wps, sw_keys]; exact hcode.nw) (wg_name ⟨rfl, rfl⟩))
  rintro _ _ ⟨rfl, rfl⟩
  refine wb_seq (wb_cut (Box fun δ' M' => ∃ (x3 x8 x10 x11 : Option C) (rest : Ms), δ' = [some (.own 0), some (.dat (wd cs)), some (.dat (wd (sw cs))), x3, none, none, some (.dat (.str (wd cs).shown)), some (.dat (wd cs.reverse)), x8, none, x10, x11, none] ∧ M' = .lst [.int a, .int b, .int c] :: rest) ?_ ?_)
  · refine wb_forK (ps := wps cs) rfl ?_
    refine turns_inv (fun j δ' M' => ∃ (x3 x8 x10 x11 : Option C) (rest : Ms), δ' = [some (.own 0), some (.dat (wd cs)), some (.dat (wd (sw cs))), x3, none, none, some (.dat (.str (wd cs).shown)), some (.dat (wd cs.reverse)), x8, none, x10, x11, none] ∧ M' = .lst [.int a, .int b, .int c] :: rest) ⟨_, _, _, _, _, rfl, rfl⟩ ?_ ?_
    · rintro j dd _ _ hj ⟨x3, x8, x10, x11, rest, rfl, rfl⟩
      obtain ⟨l, z, rfl, hm⟩ : ∃ l z : Str, dd = .str l ∧ (l, z) ∈ cs := by
        obtain ⟨q, hq, rfl⟩ := List.mem_map.mp (List.mem_of_getElem? hj)
        obtain ⟨p, hp, rfl⟩ := List.mem_map.mp hq
        exact ⟨p.1, p.2, rfl, hp⟩
      clear hj
      have hz8 : z.length ≤ 8 := (hcode.wo _ hm).2.2
      have hmr : (l, z) ∈ cs.reverse := List.mem_reverse.mpr hm
      obtain ⟨g1, g2, g3⟩ : InC cs l ∧ glue cs l = z ∧ l.length = 1 := glue_one hcode hm
      have hwho : who cs z = .str l := who_in hcode.nw hm
      have hbl := brk_le (w := z) hcode hz8
      refine wg_name ?_
      refine wb_seq (wb_cut (Box fun δ' M' => ∃ (ys : List Str) (k7 k8 : Nat) (rest : Ms), δ' = [some (.own 0), some (.dat (wd cs)), some (.dat (wd (sw cs))), some (.dat (.str l)), none, none, some (.dat (.str (wd cs).shown)), some (.dat (wd cs.reverse)), x8, none, some (.own (k7 + 1)), some (.own (k8 + 1)), none] ∧ M' = .lst [.int a, .int b, .int c] :: rest ∧ rest[k7]? = some (.lst (ys.map .str)) ∧ rest[k8]? = some (.lst (ys.map .str)) ∧ k7 ≠ k8 ∧ ys.Perm (brk cs z) ∧ sortedS ys = true) ?_ ?_)
      · refine wb_parOO (wl_call (wd_cons (we_var rfl (wd_cons (we_var rfl (wd_nil ?_))))))
        refine ⟨cs, l, z, rfl, hcode, hm, fun ys hp1 hs1 => ?_⟩
        refine wl_call (wd_cons (we_var rfl (wd_cons (we_var rfl (wd_nil ?_)))))
        refine ⟨cs, l, z, rfl, hcode, hm, fun zs hp2 hs2 => ?_⟩
        obtain rfl := sorted_uni hp1 hp2 hs1 hs2
        refine ⟨ys, rest.length, rest.length + 1, rest ++ [.lst (ys.map .str)] ++ [.lst (ys.map .str)], rfl, rfl, ?_, ?_, by omega, hp1, hs1⟩
        · simp
        · simp
      rintro _ _ ⟨ys, k7, k8, rest, rfl, rfl, h7, h8, hne, hp1, hs1⟩
      have hyl : ys.length ≤ 36 := by
        have h1 := hp1.length_eq
        omega
      obtain ⟨hsh1, hsd1⟩ := shw_pair (fun x hx => ⟨brk_sml hcode (hp1.mem_iff.mp hx), Nat.le_of_eq (brk_glue hcode (hp1.mem_iff.mp hx)).2.2⟩) hyl
      refine wb_seq (wb_cut (Box fun δ' M' => δ' = [some (.own 0), some (.dat (wd cs)), some (.dat (wd (sw cs))), some (.dat (.str l)), none, none, some (.dat (.str (wd cs).shown)), some (.dat (wd cs.reverse)), x8, none, some (.own (k7 + 1)), some (.own (k8 + 1)), none] ∧ M' = .lst [.int a, .int b, .int c] :: rest) ?_ ?_)
      · refine vb_if (wt_look ?_)
        have hsn : PW.seen [some (C.own 0), some (.dat (wd cs)), some (.dat (wd (sw cs))), some (.dat (.str l)), none, none, some (.dat (.str (wd cs).shown)), some (.dat (wd cs.reverse)), x8, none, some (.own (k7 + 1)), some (.own (k8 + 1)), none] (.lst [.int a, .int b, .int c] :: rest) = [some (.dat (.list [.int a, .int b, .int c])), some (.dat (wd cs)), some (.dat (wd (sw cs))), some (.dat (.str l)), none, none, some (.dat (.str (wd cs).shown)), some (.dat (wd cs.reverse)), seen1 x8 (.lst [.int a, .int b, .int c] :: rest), none, some (.dat (.list (ys.map .str))), some (.dat (.list (ys.map .str))), none] := by
          simp only [PW.seen, List.map_cons, List.map_nil, List.getElem?_cons_succ, h7, h8]
          rfl
        rw [hsn]
        walk_at "sp"
        refine we_wl (wl_call (wd_cons (we_var rfl (wd_cons (we_var rfl (wd_nil ?_))))))
        refine ⟨cs.reverse, l, z, rfl, hrev, hmr, fun zs hp2 hs2 => ?_⟩
        obtain rfl := sorted_uni hp1 (hp2.trans (brk_rev cs hcode z)) hs1 hs2
        walk_at "sp"
        · rename_i h1
          simp at h1
        exact ⟨rfl, rfl⟩
      rintro _ _ ⟨rfl, rfl⟩
      refine wb_seq (wb_app (k := k8 + 1) rfl h8 (we_non ⟨_, h8, by rw [List.length_map]; omega, ?_⟩))
      have h7' : (rest.set k8 (.lst (ys.map PyData.str ++ [.none])))[k7]? = some (.lst (ys.map .str)) := by
        rw [List.getElem?_set_ne (Ne.symm hne)]
        exact h7
      show WB _ _ _ _ (.lst [.int a, .int b, .int c] :: rest.set k8 (.lst (ys.map PyData.str ++ [.none]))) _
      generalize rest.set k8 (.lst (ys.map PyData.str ++ [.none])) = rest' at h7'
      refine wb_frz (i := 10) (k := k7 + 1) rfl h7' (fun e h => Nat.le_trans (Nat.le_of_eq h) (by show 1 ≤ k7 + 1; omega)) ?_
      refine wb_seq (wb_cut (Box fun δ' M' => ∃ x8, δ' = [some (.own 0), some (.dat (wd cs)), some (.dat (wd (sw cs))), some (.dat (.str l)), none, none, some (.dat (.str (wd cs).shown)), some (.dat (wd cs.reverse)), x8, none, some (.dat (.list (ys.map .str))), some (.own (k8 + 1)), none] ∧ M' = .lst [.int a, .int b, .int c] :: rest'.set k7 .gone) ?_ ?_)
      · refine wb_forL (we_var rfl ⟨_, rfl, ?_⟩)
        refine turns_inv (fun j δ' M' => ∃ x8, δ' = [some (.own 0), some (.dat (wd cs)), some (.dat (wd (sw cs))), some (.dat (.str l)), none, none, some (.dat (.str (wd cs).shown)), some (.dat (wd cs.reverse)), x8, none, some (.dat (.list (ys.map .str))), some (.own (k8 + 1)), none] ∧ M' = .lst [.int a, .int b, .int c] :: rest'.set k7 .gone) ⟨x8, rfl, rfl⟩ ?_ ?_
        · rintro j dd _ _ hj ⟨y8, rfl, rfl⟩
          obtain ⟨x, hx, rfl⟩ := List.mem_map.mp (List.mem_of_getElem? hj)
          clear hj
          obtain ⟨b1, b2, b3⟩ := brk_glue hcode (hp1.mem_iff.mp hx)
          refine wg_name ?_
          walk_at "sp"
          refine we_call (wd_cons (we_var rfl (wd_cons (we_var rfl (wd_nil ?_)))))
          refine ⟨cs, x, rfl, rfl, hcode, b1, by omega, ?_⟩
          rw [b2, hwho]
          walk_at "sp"
          · rename_i h1
            simp at h1
          rfl
        · rintro _ _ ⟨y8, rfl, rfl⟩
          exact ⟨y8, rfl, rfl⟩
      rintro _ _ ⟨y8, rfl, rfl⟩
      walk_at "sp"
      refine we_wl (wl_call (wd_cons (we_var rfl (wd_cons (we_var rfl (wd_nil ?_))))))
      refine ⟨cs, l, z, rfl, hcode, hm, fun zs hp2 hs2 => ?_⟩
      obtain rfl := sorted_uni hp1 hp2 hs1 hs2
      walk_at "sp"
      · rename_i h1 h2
        rw [SeqAt.eqv_refl _ (SeqAt.canLay_of_shaped hsd1)] at h1
        cases h1
      refine we_call (wd_cons (we_var rfl (wd_cons (we_var rfl (wd_nil ?_)))))
      refine ⟨cs, l, rfl, rfl, hcode, g1, by omega, ?_⟩
      rw [g2, hwho]
      walk_at "sp"
      · rename_i h1
        simp at h1
      exact ⟨_, _, _, _, _, rfl, rfl⟩
    · rintro _ _ ⟨x3, x8, x10, x11, rest, rfl, rfl⟩
      exact ⟨x3, x8, x10, x11, rest, rfl, rfl⟩
  rintro _ _ ⟨x3, x8, x10, x11, rest, rfl, rfl⟩
  have lN : ((wps cs).map fun p => PyData.str p.1).length = cs.length := by rw [List.length_map, List.length_map]
  have hat : ∀ i : Int, 0 ≤ i → i < (cs.length : Int) → ∃ x, atI ((wps cs).map fun p => PyData.str p.1) i = some (.str x) ∧ x ∈ cs.map (·.1) := fun i h0 h1 => by
    obtain ⟨n, rfl⟩ := Int.eq_ofNat_of_zero_le h0
    have hn : n < cs.length := by omega
    refine ⟨cs[n].1, ?_, List.mem_map_of_mem (List.getElem_mem hn)⟩
    unfold atI ixN
    rw [if_pos (by omega), if_pos (by rw [lN]; omega)]
    simp [hn]
  refine wb_seq (wb_asg (we_wl (wl_cb (wd_cons (we_var rfl (wd_nil (cl_lstK (ps := wps cs) (wg_name ?_))))))))
  refine wb_seq (wb_cut (Box fun δ' M' => ∃ (x3 x5 x8 x9 x10 x11 : Option C) (rest : Ms) (a' c' : Int), δ' = [some (.own 0), some (.dat (wd cs)), some (.dat (wd (sw cs))), x3, some (.dat (.list ((wps cs).map fun p => PyData.str p.1))), x5, some (.dat (.str (wd cs).shown)), some (.dat (wd cs.reverse)), x8, x9, x10, x11, none] ∧ M' = .lst [.int a', .int b, .int c'] :: rest ∧ 0 ≤ a' ∧ c ≤ c' ∧ c' ≤ c + 200) ?_ ?_)
  · refine wb_forR1 ?_
    walk_at "sp"
    refine ⟨by decide, by decide, turns_inv (fun j δ' M' => ∃ (x3 x5 x8 x9 x10 x11 : Option C) (rest : Ms) (a' c' : Int), δ' = [some (.own 0), some (.dat (wd cs)), some (.dat (wd (sw cs))), x3, some (.dat (.list ((wps cs).map fun p => PyData.str p.1))), x5, some (.dat (.str (wd cs).shown)), some (.dat (wd cs.reverse)), x8, x9, x10, x11, none] ∧ M' = .lst [.int a', .int b, .int c'] :: rest ∧ 0 ≤ a' ∧ c ≤ c' ∧ c' ≤ c + 10 * j)
      ⟨_, _, _, _, _, _, _, a, c, rfl, rfl, ha, Int.le_refl _, by omega⟩ ?_ ?_⟩
    · rintro j dd _ _ hj ⟨x3, x5, x8, x9, x10, x11, rest, a1, c1, rfl, rfl, ha1, hc10, hc11⟩
      have hj12 : j < 12 := by
        have h3 := (List.getElem?_eq_some_iff.mp hj).1
        rw [nums_len] at h3
        exact h3
      clear hj
      refine wg_name ?_
      refine wb_seq (wb_cut (Box fun δ' M' => ∃ (t : Str) (a' c' : Int), δ' = [some (.own 0), some (.dat (wd cs)), some (.dat (wd (sw cs))), x3, some (.dat (.list ((wps cs).map fun p => PyData.str p.1))), some (.dat dd), some (.dat (.str (wd cs).shown)), some (.dat (wd cs.reverse)), some (.dat (.str t)), x9, x10, x11, none] ∧ M' = .lst [.int a', .int b, .int c'] :: rest ∧ InC cs t ∧ t.length ≤ 4 ∧ 0 ≤ a' ∧ c1 ≤ c' ∧ c' ≤ c1 + 6) ?_ ?_)
      · refine wb_asg (we_join (we_str ⟨_, rfl, we_wl (wl_lcR1 ?_)⟩))
        walk_at "sp"
        refine ⟨a1, b, c1, 5, rfl, rfl, ha1, hb, hb2, by omega, by omega, by decide, by decide, fun z1 a2 c2 hz10 hz11 ha2 hc20 hc21 => ?_⟩
        walk_at "sp"
        refine ⟨by omega, by omega, ?_⟩
        refine comp_inv (fun i M' acc => ∃ (xs : List Str) (a' c' : Int), acc = xs.map .str ∧ xs.length = i ∧ (∀ x ∈ xs, x ∈ cs.map (·.1)) ∧ M' = .lst [.int a', .int b, .int c'] :: rest ∧ 0 ≤ a' ∧ c1 ≤ c' ∧ c' ≤ c1 + 1 + i) _ 0 _ _ ⟨[], a2, c2, rfl, rfl, (fun x h => nomatch h), rfl, ha2, hc20, by omega⟩ (fun i d M acc hi hI => ?_) (fun M acc hI => ?_)
        · obtain ⟨xs, a3, c3, rfl, hxl, hxs, rfl, ha3, hc30, hc31⟩ := hI
          have hi5 : i < 5 := by
            have h3 := (List.getElem?_eq_some_iff.mp hi).1
            rw [nums_len] at h3
            omega
          refine wc_name (by decide) ?_
          refine we_op (we_var rfl (we_dip rfl (wd_cons (we_cb (wd_cons (we_var rfl (wd_nil (cd_lenR (ps := wps cs) (wd_nil ?_)))))))))
          refine ⟨a3, b, c3, _, rfl, rfl, ha3, hb, hb2, by omega, by omega, by rw [List.length_map]; omega, by rw [List.length_map]; omega, fun z2 a4 c4 hz20 hz21 ha4 hc40 hc41 => ?_⟩
          rw [List.length_map] at hz21
          obtain ⟨x, ex, hx⟩ := hat z2 hz20 hz21
          refine od_ix_l ex ?_
          refine ⟨by rw [List.length_map]; omega, xs ++ [x], a4, c4, by simp, by rw [List.length_append, hxl]; simp, fun y hy => ?_, rfl, ha4, by omega, by omega⟩
          rcases List.mem_append.mp hy with hy | hy
          · exact hxs y hy
          · rw [List.mem_singleton.mp hy]; exact hx
        · obtain ⟨xs, a3, c3, rfl, hxl, hxs, rfl, ha3, hc30, hc31⟩ := hI
          rw [nums_len] at hxl hc31
          obtain ⟨i1, i2⟩ := glue_xs hcode hxs
          have hsum : (xs.map fun x => x.length).sum ≤ 8 * xs.length := sum_le fun x hx => by
            obtain ⟨p, hp, rfl⟩ := List.mem_map.mp (hxs x hx)
            rw [(sml_let (hcode.lt p hp)).2]
            omega
          refine ⟨xs, rfl, by rw [l0]; omega, wg_name ⟨_, a3, c3, rfl, rfl, i1, by omega, ha3, hc30, by omega⟩⟩
      rintro _ _ ⟨t, a2, c2, rfl, rfl, hin, htl, ha2, hc20, hc21⟩
      have ht : (tl t).length = t.length := (len_tl t).symm
      refine wb_seq (wb_cut (Box fun δ' M' => δ' = [some (.own 0), some (.dat (wd cs)), some (.dat (wd (sw cs))), x3, some (.dat (.list ((wps cs).map fun p => PyData.str p.1))), some (.dat dd), some (.dat (.str (wd cs).shown)), some (.dat (wd cs.reverse)), some (.dat (.str t)), some (.dat (.str (glue cs t))), x10, x11, none] ∧ M' = .lst [.int a2, .int b, .int c2] :: rest) ?_ ?_)
      · refine wb_asg (we_join (we_str ⟨_, rfl, we_wl (wl_lcS (we_var rfl ⟨_, rfl, ?_⟩))⟩))
        refine comp_fmap (f := wrD cs) _ [] (fun d hd => ?_) (by simp only [List.length_nil, List.length_map]; rw [ht]; omega) ?_
        · obtain ⟨c, hcm, rfl⟩ := List.mem_map.mp hd
          obtain ⟨z, hz⟩ := in_at (hin c hcm)
          refine wc_name (by decide) (we_dgetD rfl (we_var rfl ⟨_, _, rfl, get_of hcode.nd hz, rfl, ?_⟩))
          show PyData.str (wrdOf cs ⟨#[c]⟩) = _
          rw [wrd_at hcode.nd hz]
        rw [List.nil_append]
        refine ⟨(tl t).map fun c => wrdOf cs ⟨#[c]⟩, ?_, ?_, wg_name ⟨rfl, rfl⟩⟩
        · rw [List.map_map, List.map_map]
          rfl
        · have h1 := sum_le (xs := (tl t).map fun c => wrdOf cs ⟨#[c]⟩) fun x hx => by
            obtain ⟨c, hcm, rfl⟩ := List.mem_map.mp hx
            exact wr_len hcode (hin c hcm)
          rw [List.length_map, ht] at h1
          rw [l0, List.length_map, ht]
          omega
      rintro _ _ ⟨rfl, rfl⟩
      have hw := who_sw hcode (glue cs t)
      have hshw : Shw (who cs (glue cs t)) := by
        rcases hw with ⟨x, _, e, hx⟩ | ⟨_, e⟩
        · rw [e]
          obtain ⟨p, hp, rfl⟩ := List.mem_map.mp hx
          obtain ⟨q1, q2⟩ := sml_let (hcode.lt p hp)
          exact shw_str q1 (by omega)
        · rw [e]
          exact shw_none
      refine wb_mono (P := { nx := fun δ' M' => δ' = [some (.own 0), some (.dat (wd cs)), some (.dat (wd (sw cs))), x3, some (.dat (.list ((wps cs).map fun p => PyData.str p.1))), some (.dat dd), some (.dat (.str (wd cs).shown)), some (.dat (wd cs.reverse)), some (.dat (.str t)), some (.dat (.str (glue cs t))), x10, x11, none] ∧ M' = .lst [.int a2, .int b, .int c2] :: rest, rt := fun _ _ => False, bk := fun _ _ => False, ct := fun _ _ => False }) ?_ (fun δ' M' q => ⟨_, _, _, _, _, _, rest, a2, c2, q.1, q.2, ha2, by omega, by omega⟩) (fun _ _ q => q.elim) (fun _ _ q => q.elim) (fun _ _ q => q.elim)
      walk_at "sp"
      refine we_call (wd_cons (we_var rfl (wd_cons (we_var rfl (wd_nil ?_)))))
      refine ⟨cs, t, rfl, rfl, hcode, hin, by omega, ?_⟩
      generalize glue cs t = z at hw hshw ⊢
      walk_at "sp"
      refine wt_B (we_dinD rfl (we_var rfl ⟨_, rfl, ?_⟩))
      rcases hw with ⟨x, e1, e2, hx⟩ | ⟨e1, e2⟩
      · rw [e1, e2]
        rw [e2] at hshw
        walk_at "sp"
        refine we_dgetD rfl (we_var rfl ⟨_, _, rfl, e1, ?_⟩)
        walk_at "sp"
        all_goals first | (rename_i h1; simp at h1; done) | rfl
      · rw [e1, e2]
        rw [e2] at hshw
        walk_at "sp"
        all_goals first | rfl | (rename_i h1; simp at h1; done)
    · rintro _ _ ⟨x3, x5, x8, x9, x10, x11, rest, a1, c1, rfl, rfl, ha1, hc10, hc11⟩
      rw [nums_len] at hc11
      have e12 : (12 : Int).toNat = 12 := rfl
      exact ⟨x3, x5, x8, x9, x10, x11, rest, a1, c1, rfl, rfl, ha1, hc10, by omega⟩
  rintro _ _ ⟨x3, x5, x8, x9, x10, x11, rest, a1, c1, rfl, rfl, ha1, hc10, hc11⟩
  walk_at "sp"
  refine we_call (wd_cons (we_var rfl (wd_cons (we_str (wd_nil ?_)))))
  refine ⟨cs, "", rfl, rfl, hcode, ?_, by omega, ?_⟩
  · intro c hcm
    have e : tl ("" : Str) = [] := by decide +kernel
    rw [e] at hcm
    cases hcm
  have hno : who cs (glue cs "") = .none := by
    have e : glue cs "" = "" := by
      apply ext_tl
      unfold glue
      have e : tl ("" : Str) = [] := by decide +kernel
      rw [tl_glue2, e]
      rfl
    rw [e]
    refine who_no fun h => ?_
    obtain ⟨p, hp, e⟩ := List.mem_map.mp h
    have := (hcode.wo p hp).2.1
    rw [e, l0] at this
    omega
  rw [hno]
  walk_at "sp"
  show R (.bool _) [.lst [.int a1, .int b, .int c1]]
  rw [beq_self_eq_true]
  exact hR a1 c1 ha1 hc10 (by omega)
end
end K29

set_option Elab.async false
set_option linter.all false
set_option maxRecDepth 100000
set_option maxHeartbeats 4000000
set_option exponentiation.threshold 500
namespace K29
open PySem L2 Evl PySem.Spec PyProof.Rows PW TL
local macro_rules | `(tactic| walk_at "wp0") => `(tactic| first
  | (with_reducible refine wb_seq ?_) | (with_reducible refine wb_asg ?_) | (with_reducible refine wg_name ?_) | (with_reducible refine wb_ret ?_) | (with_reducible refine vb_if ?_) | (with_reducible refine wb_next ?_) | (with_reducible refine wb_drop ?_) | (with_reducible refine wb_retN ?_)
  | ((with_reducible show WG _ (gTup _ _ _) _ _ _ _); refine wg_tup rfl ?_) | (with_reducible refine wgs_cons ?_) | ((with_reducible show WGs _ (gCons _ _) _ _ _ _); refine wgs_cons ?_) | (with_reducible refine wgs_nil ?_) | ((with_reducible show WGs _ gNil _ _ _ _); refine wgs_nil ?_)
  | ((with_reducible show WE _ (tVar _) _ _ _); refine we_var rfl ?_)
  | (with_reducible refine we_int ?_) | (with_reducible refine we_str ?_) | (with_reducible refine we_bl ?_) | (with_reducible refine we_non ?_)
  | (with_reducible refine we_isi kit_int ?_) | (with_reducible refine we_isi kit_bool ?_) | (with_reducible refine we_isi kit_str ?_) | (with_reducible refine we_isi kit_tup ?_) | (with_reducible refine we_isi kit_lst ?_)
  | ((with_reducible show WE _ (tOp (rIx _) (tVar _) (tC _)) _ _ _); refine we_ixO rfl rfl rfl ?_)
  | ((with_reducible show WE _ (tOp (rCatS _) _ _) _ _ _); refine we_wl (wl_op ?_)) | ((with_reducible refine ol_cat ?s1 ?_); (case s1 => exact len_ok rfl)) | ((with_reducible refine od_catA ?s1 ?_); (case s1 => exact len_ok rfl))
  | (with_reducible refine we_op ?_) | (with_reducible refine we_tup ?_) | (with_reducible refine we_lst ?_) | (with_reducible refine we_pur ?_) | (with_reducible refine we_cb ?_) | (with_reducible refine we_slA ?_)
  | (with_reducible refine we_wl (wl_slL ?_)) | (with_reducible refine wo_none ?_) | (with_reducible refine wo_some ?_)
  | (with_reducible refine wd_cons ?_) | (with_reducible refine wd_nil ?_)
  | (with_reducible refine ve_and ?_) | (with_reducible refine ve_or ?_) | (with_reducible refine ve_not ?_) | (with_reducible refine ve_if ?_)
  | (with_reducible refine vt_and ?_) | (with_reducible refine vt_or ?_) | (with_reducible refine wt_not ?_) | (with_reducible refine wt_testB ?_) | (with_reducible refine wt_truB ?_)
  | (with_reducible refine od_int0 ?_) | ((with_reducible refine od_int ?s1 ?_); (case s1 => first | assumption | decide | exact ⟨by decide, by decide⟩)) | ((with_reducible show OD _ (rIx _) (.list _) (.int _) _); refine od_ix_l rfl ?_) | ((with_reducible show OD _ (rIx _) (.tuple _) (.int _) _); refine od_ix_t rfl ?_) | ((with_reducible show WG _ (gSub (tVar _) _ _) _ _ _ _); refine wg_sub rfl ?_) | (with_reducible refine od_bl0 ?_)
  | ((with_reducible show WE _ (tC _) _ _ _); refine we_con (d := ?wd) ?wc0 ?_; (case wc0 => assumption))
  | (with_reducible refine OD.or1 (od_eqS ?_)) | (with_reducible refine OD.or1 (od_neS ?_)) | (with_reducible refine od_isN ?_) | (with_reducible refine od_notN ?_)
  | ((with_reducible refine OD.or2 (od_eqD ?s1 ?s2 ?_)); (case s1 => first | assumption | exact rfl | decide +kernel); (case s2 => first | assumption | exact rfl | decide +kernel)) | ((with_reducible refine OD.or2 (od_neD ?s1 ?s2 ?_)); (case s1 => first | assumption | exact rfl | decide +kernel); (case s2 => first | assumption | exact rfl | decide +kernel))
  | ((with_reducible refine od_inT ?s1 ?s2 ?_); (case s1 => first | assumption | exact rfl | decide +kernel); (case s2 => first | assumption | exact rfl | decide +kernel)) | ((with_reducible refine od_notInT ?s1 ?s2 ?_); (case s1 => first | assumption | exact rfl | decide +kernel); (case s2 => first | assumption | exact rfl | decide +kernel))
  | (with_reducible refine cd_abs ?_) | (with_reducible refine cd_int ?_) | (with_reducible refine cd_max2 ?_) | (with_reducible refine cd_min2 ?_) | (with_reducible refine cd_lenL ?_) | (with_reducible refine cd_lenT ?_)
  | (with_reducible refine And.intro (fun hT => ?_) (fun hT => ?_))
  | ((with_reducible refine Exists.intro ?wc (And.intro ?we ?_)); (case we => exact rfl))
  | ((with_reducible show ∃ (_ : Int) (_ : Nat) (_ : List D), _); refine ⟨_, _, _, rfl, rfl, rfl, ?_⟩)
  | ((with_reducible refine And.intro ?we ?_); (case we => first | exact rfl | exact trivial | exact len_ok rfl | exact ⟨_, rfl⟩ | exact ⟨_, _, rfl⟩ | exact ⟨_, _, rfl, rfl⟩ | exact ⟨_, _, _, rfl⟩ | exact ⟨_, rfl, by assumption⟩ | exact ⟨_, by assumption, rfl⟩ | assumption)))
local macro_rules | `(tactic| walk_at "wp") => `(tactic| repeat' (first | walk_at "wp0" | fail))

section
variable {K : Fg} {δ : Dl} {M L : Ms} {R : D → Ms → Prop} {ts : TA} {E : XK}
theorem getL {x : MO} : (L ++ [x])[L.length]? = some x := by simp
theorem setL {x y : MO} : (L ++ [x]).set L.length y = L ++ [y] := by simp
theorem we_dipL {i : Nat} (ho : δ[i]? = some (some (.own L.length))) (h : WD K ts δ M fun ds M1 => ∃ a b c many : Int, ds = [.int many] ∧ M1 = L ++ [.lst [.int a, .int b, .int c]] ∧ 0 ≤ a ∧ 0 ≤ b ∧ b < 2 ^ 200 ∧ 0 ≤ c ∧ c < 2 ^ 60 ∧ 0 < many ∧ many < 2 ^ 400 ∧
    ∀ z a' c' : Int, 0 ≤ z → z < many → 0 ≤ a' → c ≤ c' → c' ≤ c + 1 → R (.int z) (L ++ [.lst [.int a', .int b, .int c']])) : PW.WE K (tCall (SpF K spinS) [] E (tCons (tVar i) ts)) δ M R :=
  we_callO ho (wd_mono h fun ds M1 q => by
    obtain ⟨a, b, c, many, rfl, rfl, h1, h2, h3, h4, h5, h6, h7, hR⟩ := q
    refine ⟨_, getL, a, b, c, many, rfl, rfl, h1, h2, h3, h4, h5, h6, h7, fun z a' c' q1 q2 q3 q4 q5 m' e => ?_⟩
    cases e
    rw [setL]
    exact hR z a' c' q1 q2 q3 q4 q5)
theorem we_codeL {i : Nat} (ho : δ[i]? = some (some (.own L.length))) (h : WD K ts δ M fun ds M1 => ∃ a b c many most : Int, ds = [.int many, .int most] ∧ M1 = L ++ [.lst [.int a, .int b, .int c]] ∧ 0 ≤ a ∧ 0 ≤ b ∧ b < 2 ^ 200 ∧ 0 ≤ c ∧ c < 2 ^ 58 ∧ 1 ≤ many ∧ many ≤ 36 ∧ 1 ≤ most ∧ most ≤ 8 ∧
    ∀ (ps : List (Str × Str)) (a' c' : Int), CodeP ps → 0 ≤ a' → c ≤ c' → c' ≤ c + 1000 → R (wd ps) (L ++ [.lst [.int a', .int b, .int c']])) : PW.WE K (tCall (SpF K codeS) [] E (tCons (tVar i) ts)) δ M R :=
  we_callO ho (wd_mono h fun ds M1 q => by
    obtain ⟨a, b, c, many, most, rfl, rfl, h1, h2, h3, h4, h5, h6, h7, h8, h9, hR⟩ := q
    refine ⟨_, getL, a, b, c, many, most, rfl, rfl, h1, h2, h3, h4, h5, h6, h7, h8, h9, fun ps a' c' q1 q2 q3 q4 m' e => ?_⟩
    cases e
    rw [setL]
    exact hR ps a' c' q1 q2 q3 q4)
theorem we_rightL {i : Nat} (ho : δ[i]? = some (some (.own L.length))) (h : WD K ts δ M fun ds M1 => ∃ (a b c : Int) (ps : List (Str × Str)), ds = [wd ps] ∧ M1 = L ++ [.lst [.int a, .int b, .int c]] ∧ 0 ≤ a ∧ 0 ≤ b ∧ b < 2 ^ 200 ∧ 0 ≤ c ∧ c < 2 ^ 57 ∧ CodeP ps ∧
    ∀ (a' c' : Int), 0 ≤ a' → c ≤ c' → c' ≤ c + 1000 → R (.bool true) (L ++ [.lst [.int a', .int b, .int c']])) : PW.WE K (tCall (SpF K rightS) [] E (tCons (tVar i) ts)) δ M R :=
  we_callO ho (wd_mono h fun ds M1 q => by
    obtain ⟨a, b, c, ps, rfl, rfl, h1, h2, h3, h4, h5, h6, hR⟩ := q
    refine ⟨_, getL, a, b, c, ps, rfl, rfl, h1, h2, h3, h4, h5, h6, fun a' c' q1 q2 q3 m' e => ?_⟩
    cases e
    rw [setL]
    exact hR a' c' q1 q2 q3)
end
def code0 : List (Str × Str) := [("e", "s"), ("t", "l"), ("a", "sl"), ("n", "ls"), ("i", "ss"), ("8", "slslslsl"), ("s", "sss")]
theorem code0_ok : CodeP code0 := by
  refine ⟨by decide, by decide, fun p hp => ?_, by decide +kernel, by decide +kernel, fun p hp => ?_⟩
  · simp only [code0, List.mem_cons, List.not_mem_nil, or_false] at hp
    rcases hp with rfl | rfl | rfl | rfl | rfl | rfl | rfl
    · exact ⟨101, by decide +kernel, by decide +kernel⟩
    · exact ⟨116, by decide +kernel, by decide +kernel⟩
    · exact ⟨97, by decide +kernel, by decide +kernel⟩
    · exact ⟨110, by decide +kernel, by decide +kernel⟩
    · exact ⟨105, by decide +kernel, by decide +kernel⟩
    · exact ⟨56, by decide +kernel, by decide +kernel⟩
    · exact ⟨115, by decide +kernel, by decide +kernel⟩
  · have h : ∀ p ∈ code0, (∀ c ∈ tl p.2, c = 115 ∨ c = 108) ∧ 1 ≤ p.2.length ∧ p.2.length ≤ 8 := by decide +kernel
    exact h p hp
theorem brk_1 : (["ei", "ie"] : List Str).Perm (brk code0 "sss") ∧ sortedS ["ei", "ie"] = true := by decide +kernel
theorem brk_2 : (["ee"] : List Str).Perm (brk code0 "ss") ∧ sortedS ["ee"] = true := by decide +kernel
theorem brk_3 : ([] : List Str).Perm (brk code0 "slslslsl") ∧ sortedS [] = true := by decide +kernel
theorem glue_ge {cs : List (Str × Str)} (hc : CodeP cs) {t : Str} (h : InC cs t) : t.length ≤ (glue cs t).length := by
  unfold glue InC at *
  rw [len_tl, len_tl (Txt.join _ _), tl_glue2]
  generalize tl t = l at h
  induction l with
  | nil => simp
  | cons c r ih =>
    have := ih fun d hd => h d (by simp [hd])
    obtain ⟨w, hm⟩ := in_at (h c (by simp))
    have h1 : 1 ≤ (tl (wrdOf cs ⟨#[c]⟩)).length := by
      rw [wrd_at hc.nd hm, ← len_tl]
      exact (hc.wo _ hm).2.1
    rw [List.map_cons, List.map_cons, List.flatten_cons, List.length_append, List.length_cons]
    omega
abbrev tE : Str := repT "e" 4000
theorem l_e : ("e" : Str).length = 1 := by decide +kernel
theorem tE_len : tE.length = 4000 := by
  rw [repT_len, l_e]
  rfl
theorem tE_in : InC code0 tE := fun c hc => by
  have h := repT_mem hc
  have e : ("e" : Str).cps.toList = [101] := by decide +kernel
  rw [e] at h
  rw [List.mem_singleton.mp h]
  decide +kernel
theorem in_4 : InC code0 "aaaa" ∧ InC code0 "aaa" := by
  have h : (∀ c ∈ tl ("aaaa" : Str), (⟨#[c]⟩ : Str) ∈ code0.map (·.1)) ∧ ∀ c ∈ tl ("aaa" : Str), (⟨#[c]⟩ : Str) ∈ code0.map (·.1) := by decide +kernel
  exact h
theorem who_4 : who code0 (glue code0 "aaaa") = .str "8" := by
  have e : glue code0 "aaaa" = "slslslsl" := by
    unfold glue
    rw [join_eq]
    decide +kernel
  rw [e]
  exact who_in code0_ok.nw (p := ("8", "slslslsl")) (by decide +kernel)
theorem who_3 : who code0 (glue code0 "aaa") = .none := by
  have e : glue code0 "aaa" = "slslsl" := by
    unfold glue
    rw [join_eq]
    decide +kernel
  rw [e]
  exact who_no (by decide +kernel)
theorem who_E : who code0 (glue code0 tE) = .none := by
  refine who_no fun h => ?_
  obtain ⟨p, hp, e⟩ := List.mem_map.mp h
  have h1 := (code0_ok.wo p hp).2.2
  have h2 := glue_ge code0_ok tE_in
  rw [← e, tE_len] at h2
  omega
def jnD (d : D) : D := match d with
  | .str t => who code0 (glue code0 t)
  | _ => .none
theorem jn_all : ([.str "aaaa", .str "aaa", .str tE] : List D).map jnD = [.str "8", .none, .none] := by
  show [who code0 (glue code0 "aaaa"), who code0 (glue code0 "aaa"), who code0 (glue code0 tE)] = _
  rw [who_4, who_3, who_E]
local macro_rules | `(tactic| walk_at "sp0") => `(tactic| first
  | ((with_reducible refine And.intro (fun hT => ?_) (fun hT => ?_)) <;> (first | (exact absurd (show false = true from hT) Bool.false_ne_true) | (exact absurd (show true = false from hT) tnf) | skip))
  | (with_reducible refine we_dipL rfl ?_) | (with_reducible refine we_codeL rfl ?_) | (with_reducible refine we_rightL rfl ?_)
  | walk_at "wp0")
local macro_rules | `(tactic| walk_at "sp") => `(tactic| repeat' (first | walk_at "sp0" | fail))
section
variable {P : Program} {w : World} {K : Fg} {mg : Str → Option Value} {base : Heap}
theorem ok_law (T : Tx K mg) : FnG P w K mg base 9 T.f_law T.d_law ["script"] (SpF K (lawS 63)) := by
  have G_law_dip := ok_spin (P := P) (w := w) (base := base) T
  have G_law_fount := ok_reel (P := P) (w := w) (base := base) T
  have G_law_code := ok_code (P := P) (w := w) (base := base) T
  have G_law_right := ok_right (P := P) (w := w) (base := base) T
  have G_broken := ok_broken (P := P) (w := w) (base := base) T
  have G_joined_letter := ok_joined (P := P) (w := w) (base := base) T
  refine fgok T.F_law sc_law (fun cs M R h => ?_) fun cdv A outer s0' H E hr hg => ⟨_, (pss_cons (ps_for PassesOwn.never rfl (pi_range1 rfl T.n_range (pa_cons (pe_callB (call_max2 rfl) (by rfl) T.n_max (by decide +kernel) (pa_cons pe_int (pa_cons (pe_callB (call_min2 rfl) (by rfl) T.n_min (by decide +kernel) (pa_cons pe_int (pa_cons (pe_callB call_lenD (by rfl) T.n_len (by decide +kernel) (pa_cons (pv 0) pa_nil)) pa_nil))) pa_nil))) pa_nil)) (pg_name (i := 1) sc_law.nd rfl (Or.inl rfl)) (pss_cons (ps_set (i := 4) sc_law.nd rfl (Or.inl rfl) (pg_call G_law_fount (hr.mono (by decide)) hg rfl T.m_law_fount T.F_law_fount.kp T.b_law_fount (pa_cons (pv 0) (pa_cons (pv 1) pa_nil)))) (pss_one (ps_for PassesOwn.never rfl (pi_list (pe_lst (pa_cons (pe_tup (pa_cons pe_int (pa_cons pe_int pa_nil))) (pa_cons (pe_tup (pa_cons (pe_op op_add pe_int (pg_call G_law_dip (hr.mono (by decide)) hg rfl T.m_law_dip T.F_law_dip.kp T.b_law_dip (pa_cons (pv 4) (pa_cons pe_int pa_nil)))) (pa_cons pe_int pa_nil))) (pa_cons (pe_tup (pa_cons pe_int (pa_cons pe_int pa_nil))) pa_nil))))) (pg_tup rfl (pgs_cons (pg_name (i := 5) sc_law.nd rfl (Or.inl rfl)) (pgs_cons (pg_name (i := 6) sc_law.nd rfl (Or.inl rfl)) pgs_nil))) (pss_one (ps_if (pt_not (pt_truth (pg_call G_law_right (hr.mono (by decide)) hg rfl T.m_law_right T.F_law_right.kp T.b_law_right (pa_cons (pv 4) (pa_cons (pg_call G_law_code (hr.mono (by decide)) hg rfl T.m_law_code T.F_law_code.kp T.b_law_code (pa_cons (pv 4) (pa_cons (pv 5) (pa_cons (pv 6) pa_nil)))) pa_nil))) (by intro _; rfl))) (pss_one (ps_ret pe_bl)) pss_nil)))))) (pss_cons (ps_set (i := 2) sc_law.nd rfl (Or.inr rfl) (pe_disp (pps_cons pe_str pe_str (pps_cons pe_str pe_str (pps_cons pe_str pe_str (pps_cons pe_str pe_str (pps_cons pe_str pe_str (pps_cons pe_str pe_str (pps_cons pe_str pe_str pps_nil))))))) (by rfl) (by rfl) (fun z => by cases z) (by decide))) (pss_cons (ps_set (i := 3) sc_law.nd rfl (Or.inl rfl) (pe_lst (pa_cons (pg_call G_broken (hr.mono (by decide)) hg rfl T.m_broken T.F_broken.kp T.b_broken (pa_cons (pv 2) (pa_cons pe_str pa_nil))) (pa_cons (pg_call G_broken (hr.mono (by decide)) hg rfl T.m_broken T.F_broken.kp T.b_broken (pa_cons (pv 2) (pa_cons pe_str pa_nil))) (pa_cons (pg_call G_broken (hr.mono (by decide)) hg rfl T.m_broken T.F_broken.kp T.b_broken (pa_cons (pv 2) (pa_cons pe_str pa_nil))) pa_nil))))) (pss_cons (ps_set (i := 3) sc_law.nd rfl (Or.inl rfl) (pe_op op_catS (pv 3) (pe_lc (own := [("text", 7)]) rfl sc_law.nd (pi_tup (pe_tup (pa_cons pe_str (pa_cons pe_str (pa_cons (pe_op op_repU pe_str pe_int) pa_nil))))) (blkOk_by (own := [("text", 7)]) (N := ["script", "k", "code", "told", "fount", "many", "most", "text"]) (sc := defScope s_law) (by decide +kernel)) (fun _ _ _ _ _ => (pg_name (i := 7) sc_law.nd rfl (Or.inl rfl))) (fun _ _ _ _ _ => pts_nil) (fun _ _ _ _ _ => (pg_call G_joined_letter (hr.mono (by decide)) hg rfl T.m_joined_letter T.F_joined_letter.kp T.b_joined_letter (pa_cons (pv 2) (pa_cons (pv 7) pa_nil))))))) (pss_one (ps_ret (pe_cmpR (op_eq.or (op_eqD (u65 hr))) (pv 3) (pe_lst (pa_cons (pe_lst (pa_cons pe_str (pa_cons pe_str pa_nil))) (pa_cons (pe_lst (pa_cons pe_str pa_nil)) (pa_cons (pe_lst pa_nil) (pa_cons pe_str (pa_cons pe_non (pa_cons pe_non pa_nil))))))) (nomark _)))))))), fun cs M R h => ?_⟩
  · obtain ⟨ns, rfl, _⟩ := h
    rfl
  try simp only [nox_K, cxo_K]
  obtain ⟨ns, rfl, rfl, hlen, hbits, hR⟩ := h
  have big := lt_ok (n := 50001) rfl
  refine wb_seq (wb_cut (Box fun δ' _ => ∃ x1 x4 x5 x6 : Option C, δ' = [some (.dat (.list (ns.map .int))), x1, none, none, x4, x5, x6, none]) ?_ ?_)
  · refine wb_forR1 ?_
    walk_at "sp"
    have hr4 : ∀ l : Int, 0 ≤ l → 1 ≤ (if (if l < 4 then l else 4) > 1 then if l < 4 then l else 4 else 1) ∧ (if (if l < 4 then l else 4) > 1 then if l < 4 then l else 4 else 1) ≤ 4 := fun l h => by
      split <;> split <;> omega
    have hr5 := hr4 _ (Int.natCast_nonneg (ns.map PyData.int).length)
    refine ⟨by omega, by omega, turns_inv (fun j δ' M' => ∃ x1 x4 x5 x6 : Option C, δ' = [some (.dat (.list (ns.map .int))), x1, none, none, x4, x5, x6, none]) ⟨_, _, _, _, rfl⟩ ?_ ?_⟩
    · rintro j dd _ M0 hj ⟨x1, x4, x5, x6, rfl⟩
      have hjj : ∃ i : Int, dd = .int i ∧ 0 ≤ i ∧ i < 4 := by
        have h3 := (List.getElem?_eq_some_iff.mp hj).1
        rw [nums_len] at h3
        rw [nums_get h3] at hj
        cases hj
        exact ⟨_, rfl, by omega, by omega⟩
      obtain ⟨ix, rfl, hi0, hi1⟩ := hjj
      clear hj
      refine wg_name ?_
      refine wb_seq (wb_asgO (wl_call ?_))
      walk_at "sp"
      refine ⟨ns, ix, rfl, hi0, by omega, fun a b ha hb hb2 => ?_⟩
      refine wb_forL ?_
      walk_at "sp"
      refine ⟨a, b, 0, 9, rfl, rfl, ha, hb, hb2, by decide, by decide, by decide, by decide, fun z1 a2 c2 hz10 hz11 ha2 hc2 hc22 => ?_⟩
      walk_at "sp"
      have hall : ∀ d ∈ [PyData.tuple [.int 36, .int 8], .tuple [.int (1 + z1), .int 2], .tuple [.int 12, .int 3]], ∃ m k : Int, d = .tuple [.int m, .int k] ∧ 1 ≤ m ∧ m ≤ 36 ∧ 1 ≤ k ∧ k ≤ 8 := fun d hd => by
        simp only [List.mem_cons, List.not_mem_nil, or_false] at hd
        rcases hd with h | h | h <;> exact ⟨_, _, h, by omega, by omega, by omega, by omega⟩
      have hnl : [PyData.tuple [.int 36, .int 8], .tuple [.int (1 + z1), .int 2], .tuple [.int 12, .int 3]].length = 3 := rfl
      generalize [PyData.tuple [.int 36, .int 8], .tuple [.int (1 + z1), .int 2], .tuple [.int 12, .int 3]] = ms at hall hnl
      refine turns_inv (fun j δ' M' => ∃ (x5 x6 : Option C) (a' c' : Int), δ' = [some (.dat (.list (ns.map .int))), some (.dat (.int ix)), none, none, some (.own M0.length), x5, x6, none] ∧ M' = M0 ++ [.lst [.int a', .int b, .int c']] ∧ 0 ≤ a' ∧ 0 ≤ c' ∧ c' ≤ 2 + 3000 * j) ⟨_, _, _, _, rfl, rfl, ha2, by omega, by omega⟩ ?_ ?_
      · rintro j dd _ _ hj ⟨y5, y6, a4, c4, rfl, rfl, ha4, hc4, hc42⟩
        have h3 := (List.getElem?_eq_some_iff.mp hj).1
        obtain ⟨m, k, rfl, hm1, hm36, hk1, hk8⟩ := hall dd (List.mem_of_getElem? hj)
        clear hj
        refine wg_tup rfl ?_
        walk_at "sp"
        refine ⟨a4, b, c4, m, k, rfl, rfl, ha4, hb, hb2, hc4, by omega, hm1, hm36, hk1, hk8, fun ps a5 c5 hps ha5 hc5 hc52 => ?_⟩
        walk_at "sp"
        refine ⟨a5, b, c5, ps, rfl, rfl, ha5, hb, hb2, by omega, by omega, hps, fun a6 c6 ha6 hc6 hc62 => ?_⟩
        walk_at "sp"
        exact ⟨_, _, a6, c6, rfl, rfl, ha6, by omega, by omega⟩
      · rintro _ _ ⟨y5, y6, a4, c4, rfl, rfl, ha4, hc4, hc42⟩
        exact ⟨_, _, _, _, rfl⟩
    · rintro _ _ ⟨x1, x4, x5, x6, rfl⟩
      exact ⟨_, _, _, _, rfl⟩
  rintro _ M1 ⟨x1, x4, x5, x6, rfl⟩
  refine wb_seq (wb_cut (Box fun δ' _ => δ' = [some (.dat (.list (ns.map .int))), x1, some (.dat (wd code0)), none, x4, x5, x6, none]) ?_ ?_)
  · refine wb_asg (we_dicD (wps code0) (by decide) (lf_wps _) (merge_kv (wps code0) [] (fun _ h => nomatch h) (by rw [keys_wps]; exact code0_ok.nd)) ?_)
    exact wg_name rfl
  rintro _ M2 rfl
  refine wb_seq (wb_cut (Box fun δ' _ => δ' = [some (.dat (.list (ns.map .int))), x1, some (.dat (wd code0)), some (.dat (.list [.list [.str "ei", .str "ie"], .list [.str "ee"], .list []])), x4, x5, x6, none]) ?_ ?_)
  · refine wb_asg (we_wl (wl_lst (wd_cons (we_wl (wl_call (wd_cons (we_var rfl (wd_cons (we_str (wd_nil ?_))))))))))
    refine ⟨code0, "s", "sss", rfl, code0_ok, by decide +kernel, fun ys hp hs => ?_⟩
    obtain rfl := sorted_uni hp brk_1.1 hs brk_1.2
    refine wd_cons (we_wl (wl_call (wd_cons (we_var rfl (wd_cons (we_str (wd_nil ?_)))))))
    refine ⟨code0, "i", "ss", rfl, code0_ok, by decide +kernel, fun ys hp hs => ?_⟩
    obtain rfl := sorted_uni hp brk_2.1 hs brk_2.2
    refine wd_cons (we_wl (wl_call (wd_cons (we_var rfl (wd_cons (we_str (wd_nil ?_)))))))
    refine ⟨code0, "8", "slslslsl", rfl, code0_ok, by decide +kernel, fun ys hp hs => ?_⟩
    obtain rfl := sorted_uni hp brk_3.1 hs brk_3.2
    exact wd_nil ⟨len_ok rfl, wg_name rfl⟩
  rintro _ M3 rfl
  refine wb_seq (wb_cut (Box fun δ' _ => ∃ x7 : Option C, δ' = [some (.dat (.list (ns.map .int))), x1, some (.dat (wd code0)), some (.dat (.list [.list [.str "ei", .str "ie"], .list [.str "ee"], .list [], .str "8", .none, .none])), x4, x5, x6, x7]) ?_ ?_)
  · refine wb_asg (we_wl (wl_op (we_var rfl (we_wl (wl_lcT (we_tup (wd_cons (we_str (wd_cons (we_str (wd_cons (we_op (we_str (we_int (od_repU (by decide) (by decide) (by rw [l_e]; exact Nat.le_refl 1) (by rw [l_e]; decide) (wd_nil ⟨len_ok rfl, _, rfl, ?_⟩))))))))))))))))
    refine comp_fmap (f := jnD) _ [] (fun d hd => ?_) (by simp only [List.length_nil, List.length_cons]; omega) ?_
    · have hd' : ∃ t : Str, d = .str t ∧ InC code0 t ∧ t.length ≤ 4000 := by
        simp only [List.mem_cons, List.not_mem_nil, or_false] at hd
        rcases hd with rfl | rfl | rfl
        · exact ⟨_, rfl, in_4.1, by decide +kernel⟩
        · exact ⟨_, rfl, in_4.2, by decide +kernel⟩
        · exact ⟨_, rfl, tE_in, Nat.le_of_eq tE_len⟩
      obtain ⟨t, rfl, h1, h2⟩ := hd'
      refine wc_name (by decide) (we_call (wd_cons (we_var rfl (wd_cons (we_var rfl (wd_nil ?_))))))
      exact ⟨code0, t, rfl, rfl, code0_ok, h1, h2, rfl, rfl⟩
    · rw [List.nil_append, jn_all]
      refine ol_cat (len_ok rfl) (wg_name ⟨_, rfl⟩)
  rintro _ M4 ⟨x7, rfl⟩
  walk_at "sp"
  rw [SeqAt.eqv_refl _ (by decide +kernel)]
  exact hR _
end
end K29

set_option Elab.async false
set_option linter.all false
set_option maxRecDepth 100000
set_option maxHeartbeats 4000000
namespace K29
open PySem L2 Evl PySem.Spec PyProof.Rows PW
theorem keep_fn {K : Fg} {f : Addr} {oc : Value} {od : Option Addr} {sl : Array (Option Value)} {fd : FuncData} (l : K.lookup f = some ⟨oc, od, .func fd, sl⟩) : PySem.W.keepIn K (.ref f) = true := by
  simp only [PySem.W.keepIn, l]
theorem end_mk {l : PySem.W.OpenLaw} {w : World} {K : Fg} {h : Heap} {mg : Str → Option Value} {fa : Addr} (X : K.In h) (G : h.Ns mainGlobals mg) (hfa : mg "law" = some (.ref fa))
    {f_check_code : Addr} {od_check_code an_check_code : Option Addr} {sl_check_code : Array (Option Value)} {oc_check_code kV_check_code dc_check_code pm_check_code cd_check_code ct_check_code : Value}
    (a_check_code : PySem.W.nsIn K mainGlobals "check_code" = some (some (.ref f_check_code))) (l_check_code : K.lookup f_check_code = some ⟨oc_check_code, od_check_code, .func (PySem.W.fnOf "check_code" "check_code" (defArgs s_check_code) (defBody s_check_code) (defScope s_check_code) .none kV_check_code dc_check_code pm_check_code an_check_code cd_check_code ct_check_code), sl_check_code⟩)
    (c_check_code : PySem.W.codeIn K cd_check_code "check_code" = true)
    {f_has_letters : Addr} {od_has_letters an_has_letters : Option Addr} {sl_has_letters : Array (Option Value)} {oc_has_letters kV_has_letters dc_has_letters pm_has_letters cd_has_letters ct_has_letters : Value}
    (a_has_letters : PySem.W.nsIn K mainGlobals "has_letters" = some (some (.ref f_has_letters))) (l_has_letters : K.lookup f_has_letters = some ⟨oc_has_letters, od_has_letters, .func (PySem.W.fnOf "has_letters" "has_letters" (defArgs s_has_letters) (defBody s_has_letters) (defScope s_has_letters) .none kV_has_letters dc_has_letters pm_has_letters an_has_letters cd_has_letters ct_has_letters), sl_has_letters⟩)
    (c_has_letters : PySem.W.codeIn K cd_has_letters "has_letters" = true)
    {f_is_letter : Addr} {od_is_letter an_is_letter : Option Addr} {sl_is_letter : Array (Option Value)} {oc_is_letter kV_is_letter dc_is_letter pm_is_letter cd_is_letter ct_is_letter : Value}
    (a_is_letter : PySem.W.nsIn K mainGlobals "is_letter" = some (some (.ref f_is_letter))) (l_is_letter : K.lookup f_is_letter = some ⟨oc_is_letter, od_is_letter, .func (PySem.W.fnOf "is_letter" "is_letter" (defArgs s_is_letter) (defBody s_is_letter) (defScope s_is_letter) .none kV_is_letter dc_is_letter pm_is_letter an_is_letter cd_is_letter ct_is_letter), sl_is_letter⟩)
    (c_is_letter : PySem.W.codeIn K cd_is_letter "is_letter" = true)
    {f_wrong_letter : Addr} {od_wrong_letter an_wrong_letter : Option Addr} {sl_wrong_letter : Array (Option Value)} {oc_wrong_letter kV_wrong_letter dc_wrong_letter pm_wrong_letter cd_wrong_letter ct_wrong_letter : Value}
    (a_wrong_letter : PySem.W.nsIn K mainGlobals "wrong_letter" = some (some (.ref f_wrong_letter))) (l_wrong_letter : K.lookup f_wrong_letter = some ⟨oc_wrong_letter, od_wrong_letter, .func (PySem.W.fnOf "wrong_letter" "wrong_letter" (defArgs s_wrong_letter) (defBody s_wrong_letter) (defScope s_wrong_letter) .none kV_wrong_letter dc_wrong_letter pm_wrong_letter an_wrong_letter cd_wrong_letter ct_wrong_letter), sl_wrong_letter⟩)
    (c_wrong_letter : PySem.W.codeIn K cd_wrong_letter "wrong_letter" = true)
    {f_is_word : Addr} {od_is_word an_is_word : Option Addr} {sl_is_word : Array (Option Value)} {oc_is_word kV_is_word dc_is_word pm_is_word cd_is_word ct_is_word : Value}
    (a_is_word : PySem.W.nsIn K mainGlobals "is_word" = some (some (.ref f_is_word))) (l_is_word : K.lookup f_is_word = some ⟨oc_is_word, od_is_word, .func (PySem.W.fnOf "is_word" "is_word" (defArgs s_is_word) (defBody s_is_word) (defScope s_is_word) .none kV_is_word dc_is_word pm_is_word an_is_word cd_is_word ct_is_word), sl_is_word⟩)
    (c_is_word : PySem.W.codeIn K cd_is_word "is_word" = true)
    {f_has_signs : Addr} {od_has_signs an_has_signs : Option Addr} {sl_has_signs : Array (Option Value)} {oc_has_signs kV_has_signs dc_has_signs pm_has_signs cd_has_signs ct_has_signs : Value}
    (a_has_signs : PySem.W.nsIn K mainGlobals "has_signs" = some (some (.ref f_has_signs))) (l_has_signs : K.lookup f_has_signs = some ⟨oc_has_signs, od_has_signs, .func (PySem.W.fnOf "has_signs" "has_signs" (defArgs s_has_signs) (defBody s_has_signs) (defScope s_has_signs) .none kV_has_signs dc_has_signs pm_has_signs an_has_signs cd_has_signs ct_has_signs), sl_has_signs⟩)
    (c_has_signs : PySem.W.codeIn K cd_has_signs "has_signs" = true)
    {f_broken : Addr} {od_broken an_broken : Option Addr} {sl_broken : Array (Option Value)} {oc_broken kV_broken dc_broken pm_broken cd_broken ct_broken : Value}
    (a_broken : PySem.W.nsIn K mainGlobals "broken" = some (some (.ref f_broken))) (l_broken : K.lookup f_broken = some ⟨oc_broken, od_broken, .func (PySem.W.fnOf "broken" "broken" (defArgs s_broken) (defBody s_broken) (defScope s_broken) .none kV_broken dc_broken pm_broken an_broken cd_broken ct_broken), sl_broken⟩)
    (c_broken : PySem.W.codeIn K cd_broken "broken" = true)
    {f_joined_letter : Addr} {od_joined_letter an_joined_letter : Option Addr} {sl_joined_letter : Array (Option Value)} {oc_joined_letter kV_joined_letter dc_joined_letter pm_joined_letter cd_joined_letter ct_joined_letter : Value}
    (a_joined_letter : PySem.W.nsIn K mainGlobals "joined_letter" = some (some (.ref f_joined_letter))) (l_joined_letter : K.lookup f_joined_letter = some ⟨oc_joined_letter, od_joined_letter, .func (PySem.W.fnOf "joined_letter" "joined_letter" (defArgs s_joined_letter) (defBody s_joined_letter) (defScope s_joined_letter) .none kV_joined_letter dc_joined_letter pm_joined_letter an_joined_letter cd_joined_letter ct_joined_letter), sl_joined_letter⟩)
    (c_joined_letter : PySem.W.codeIn K cd_joined_letter "joined_letter" = true)
    {f_law_fount : Addr} {od_law_fount an_law_fount : Option Addr} {sl_law_fount : Array (Option Value)} {oc_law_fount kV_law_fount dc_law_fount pm_law_fount cd_law_fount ct_law_fount : Value}
    (a_law_fount : PySem.W.nsIn K mainGlobals "_law_fount" = some (some (.ref f_law_fount))) (l_law_fount : K.lookup f_law_fount = some ⟨oc_law_fount, od_law_fount, .func (PySem.W.fnOf "_law_fount" "_law_fount" (defArgs s_law_fount) (defBody s_law_fount) (defScope s_law_fount) .none kV_law_fount dc_law_fount pm_law_fount an_law_fount cd_law_fount ct_law_fount), sl_law_fount⟩)
    (c_law_fount : PySem.W.codeIn K cd_law_fount "_law_fount" = true)
    {f_law_dip : Addr} {od_law_dip an_law_dip : Option Addr} {sl_law_dip : Array (Option Value)} {oc_law_dip kV_law_dip dc_law_dip pm_law_dip cd_law_dip ct_law_dip : Value}
    (a_law_dip : PySem.W.nsIn K mainGlobals "_law_dip" = some (some (.ref f_law_dip))) (l_law_dip : K.lookup f_law_dip = some ⟨oc_law_dip, od_law_dip, .func (PySem.W.fnOf "_law_dip" "_law_dip" (defArgs s_law_dip) (defBody s_law_dip) (defScope s_law_dip) .none kV_law_dip dc_law_dip pm_law_dip an_law_dip cd_law_dip ct_law_dip), sl_law_dip⟩)
    (c_law_dip : PySem.W.codeIn K cd_law_dip "_law_dip" = true)
    {f_law_word : Addr} {od_law_word an_law_word : Option Addr} {sl_law_word : Array (Option Value)} {oc_law_word kV_law_word dc_law_word pm_law_word cd_law_word ct_law_word : Value}
    (a_law_word : PySem.W.nsIn K mainGlobals "_law_word" = some (some (.ref f_law_word))) (l_law_word : K.lookup f_law_word = some ⟨oc_law_word, od_law_word, .func (PySem.W.fnOf "_law_word" "_law_word" (defArgs s_law_word) (defBody s_law_word) (defScope s_law_word) .none kV_law_word dc_law_word pm_law_word an_law_word cd_law_word ct_law_word), sl_law_word⟩)
    (c_law_word : PySem.W.codeIn K cd_law_word "_law_word" = true)
    {f_law_code : Addr} {od_law_code an_law_code : Option Addr} {sl_law_code : Array (Option Value)} {oc_law_code kV_law_code dc_law_code pm_law_code cd_law_code ct_law_code : Value}
    (a_law_code : PySem.W.nsIn K mainGlobals "_law_code" = some (some (.ref f_law_code))) (l_law_code : K.lookup f_law_code = some ⟨oc_law_code, od_law_code, .func (PySem.W.fnOf "_law_code" "_law_code" (defArgs s_law_code) (defBody s_law_code) (defScope s_law_code) .none kV_law_code dc_law_code pm_law_code an_law_code cd_law_code ct_law_code), sl_law_code⟩)
    (c_law_code : PySem.W.codeIn K cd_law_code "_law_code" = true)
    {f_law_broken : Addr} {od_law_broken an_law_broken : Option Addr} {sl_law_broken : Array (Option Value)} {oc_law_broken kV_law_broken dc_law_broken pm_law_broken cd_law_broken ct_law_broken : Value}
    (a_law_broken : PySem.W.nsIn K mainGlobals "_law_broken" = some (some (.ref f_law_broken))) (l_law_broken : K.lookup f_law_broken = some ⟨oc_law_broken, od_law_broken, .func (PySem.W.fnOf "_law_broken" "_law_broken" (defArgs s_law_broken) (defBody s_law_broken) (defScope s_law_broken) .none kV_law_broken dc_law_broken pm_law_broken an_law_broken cd_law_broken ct_law_broken), sl_law_broken⟩)
    (c_law_broken : PySem.W.codeIn K cd_law_broken "_law_broken" = true)
    {f_law_right : Addr} {od_law_right an_law_right : Option Addr} {sl_law_right : Array (Option Value)} {oc_law_right kV_law_right dc_law_right pm_law_right cd_law_right ct_law_right : Value}
    (a_law_right : PySem.W.nsIn K mainGlobals "_law_right" = some (some (.ref f_law_right))) (l_law_right : K.lookup f_law_right = some ⟨oc_law_right, od_law_right, .func (PySem.W.fnOf "_law_right" "_law_right" (defArgs s_law_right) (defBody s_law_right) (defScope s_law_right) .none kV_law_right dc_law_right pm_law_right an_law_right cd_law_right ct_law_right), sl_law_right⟩)
    (c_law_right : PySem.W.codeIn K cd_law_right "_law_right" = true)
    {f_law : Addr} {od_law an_law : Option Addr} {sl_law : Array (Option Value)} {oc_law kV_law dc_law pm_law cd_law ct_law : Value}
    (a_law : PySem.W.nsIn K mainGlobals "law" = some (some (.ref f_law))) (l_law : K.lookup f_law = some ⟨oc_law, od_law, .func (PySem.W.fnOf "law" "law" (defArgs s_law) (defBody s_law) (defScope s_law) .none kV_law dc_law pm_law an_law cd_law ct_law), sl_law⟩)
    (c_law : PySem.W.codeIn K cd_law "law" = true)
    {q_LEVERS : Addr} {qd_LEVERS : Option Addr} {qs_LEVERS : Array (Option Value)} {qn_LEVERS : Nat} {t_LEVERS_0 t_LEVERS_1 : Nat}
    (a_LEVERS : PySem.W.nsIn K mainGlobals "LEVERS" = some (some (.ref q_LEVERS))) (l_LEVERS : K.lookup q_LEVERS = some ⟨.type "tuple", qd_LEVERS, .seq #[.str "s" t_LEVERS_0, .str "l" t_LEVERS_1] qn_LEVERS, qs_LEVERS⟩)
    {t_LETTERS : Nat} (a_LETTERS : PySem.W.nsIn K mainGlobals "LETTERS" = some (some (.str "abcdefghijklmnopqrstuvwxyz0123456789" t_LETTERS)))
    {t_MOST_SIGNS : Nat} (a_MOST_SIGNS : PySem.W.nsIn K mainGlobals "MOST_SIGNS" = some (some (.int 8 t_MOST_SIGNS)))
    (z_abs : PySem.W.nsIn K mainGlobals "abs" = some none)
    (z_all : PySem.W.nsIn K mainGlobals "all" = some none)
    (z_dict : PySem.W.nsIn K mainGlobals "dict" = some none)
    (z_int : PySem.W.nsIn K mainGlobals "int" = some none)
    (z_isinstance : PySem.W.nsIn K mainGlobals "isinstance" = some none)
    (z_len : PySem.W.nsIn K mainGlobals "len" = some none)
    (z_list : PySem.W.nsIn K mainGlobals "list" = some none)
    (z_max : PySem.W.nsIn K mainGlobals "max" = some none)
    (z_min : PySem.W.nsIn K mainGlobals "min" = some none)
    (z_range : PySem.W.nsIn K mainGlobals "range" = some none)
    (z_repr : PySem.W.nsIn K mainGlobals "repr" = some none)
    (z_sorted : PySem.W.nsIn K mainGlobals "sorted" = some none)
    (z_str : PySem.W.nsIn K mainGlobals "str" = some none)
    : ∃ fd : FuncData, (∀ (s : Shared) (u : Value), BindsTo s fd ⟨[u], []⟩ [("script", u)]) ∧ ∀ base : Heap, K.In base → base.Ns mainGlobals mg → FnG l.prog w K mg base 9 fa fd ["script"] (SpF K (lawS 63)) := by
  have e := hfa.symm.trans (PySem.W.mg_of X G a_law)
  cases e
  let T : Tx K mg := { f_check_code := _, d_check_code := _, F_check_code := fun_mk (st := s_check_code) l_check_code c_check_code (keep_fn l_check_code), m_check_code := PySem.W.mg_of X G a_check_code, f_has_letters := _, d_has_letters := _, F_has_letters := fun_mk (st := s_has_letters) l_has_letters c_has_letters (keep_fn l_has_letters), m_has_letters := PySem.W.mg_of X G a_has_letters, f_is_letter := _, d_is_letter := _, F_is_letter := fun_mk (st := s_is_letter) l_is_letter c_is_letter (keep_fn l_is_letter), m_is_letter := PySem.W.mg_of X G a_is_letter, f_wrong_letter := _, d_wrong_letter := _, F_wrong_letter := fun_mk (st := s_wrong_letter) l_wrong_letter c_wrong_letter (keep_fn l_wrong_letter), m_wrong_letter := PySem.W.mg_of X G a_wrong_letter, f_is_word := _, d_is_word := _, F_is_word := fun_mk (st := s_is_word) l_is_word c_is_word (keep_fn l_is_word), m_is_word := PySem.W.mg_of X G a_is_word, f_has_signs := _, d_has_signs := _, F_has_signs := fun_mk (st := s_has_signs) l_has_signs c_has_signs (keep_fn l_has_signs), m_has_signs := PySem.W.mg_of X G a_has_signs, f_broken := _, d_broken := _, F_broken := fun_mk (st := s_broken) l_broken c_broken (keep_fn l_broken), m_broken := PySem.W.mg_of X G a_broken, f_joined_letter := _, d_joined_letter := _, F_joined_letter := fun_mk (st := s_joined_letter) l_joined_letter c_joined_letter (keep_fn l_joined_letter), m_joined_letter := PySem.W.mg_of X G a_joined_letter, f_law_fount := _, d_law_fount := _, F_law_fount := fun_mk (st := s_law_fount) l_law_fount c_law_fount (keep_fn l_law_fount), m_law_fount := PySem.W.mg_of X G a_law_fount, f_law_dip := _, d_law_dip := _, F_law_dip := fun_mk (st := s_law_dip) l_law_dip c_law_dip (keep_fn l_law_dip), m_law_dip := PySem.W.mg_of X G a_law_dip, f_law_word := _, d_law_word := _, F_law_word := fun_mk (st := s_law_word) l_law_word c_law_word (keep_fn l_law_word), m_law_word := PySem.W.mg_of X G a_law_word, f_law_code := _, d_law_code := _, F_law_code := fun_mk (st := s_law_code) l_law_code c_law_code (keep_fn l_law_code), m_law_code := PySem.W.mg_of X G a_law_code, f_law_broken := _, d_law_broken := _, F_law_broken := fun_mk (st := s_law_broken) l_law_broken c_law_broken (keep_fn l_law_broken), m_law_broken := PySem.W.mg_of X G a_law_broken, f_law_right := _, d_law_right := _, F_law_right := fun_mk (st := s_law_right) l_law_right c_law_right (keep_fn l_law_right), m_law_right := PySem.W.mg_of X G a_law_right, f_law := _, d_law := _, F_law := fun_mk (st := s_law) l_law c_law (keep_fn l_law), m_law := PySem.W.mg_of X G a_law, b_check_code := (fun_mk (st := s_check_code) l_check_code c_check_code (keep_fn l_check_code)).binds (ps := ["value"]) fun _ _ _ _ _ _ us hl => match us, hl with | [_], _ => rfl, b_has_letters := (fun_mk (st := s_has_letters) l_has_letters c_has_letters (keep_fn l_has_letters)).binds (ps := ["value"]) fun _ _ _ _ _ _ us hl => match us, hl with | [_], _ => rfl, b_is_letter := (fun_mk (st := s_is_letter) l_is_letter c_is_letter (keep_fn l_is_letter)).binds (ps := ["value"]) fun _ _ _ _ _ _ us hl => match us, hl with | [_], _ => rfl, b_wrong_letter := (fun_mk (st := s_wrong_letter) l_wrong_letter c_wrong_letter (keep_fn l_wrong_letter)).binds (ps := ["code"]) fun _ _ _ _ _ _ us hl => match us, hl with | [_], _ => rfl, b_is_word := (fun_mk (st := s_is_word) l_is_word c_is_word (keep_fn l_is_word)).binds (ps := ["value"]) fun _ _ _ _ _ _ us hl => match us, hl with | [_], _ => rfl, b_has_signs := (fun_mk (st := s_has_signs) l_has_signs c_has_signs (keep_fn l_has_signs)).binds (ps := ["value"]) fun _ _ _ _ _ _ us hl => match us, hl with | [_], _ => rfl, b_broken := (fun_mk (st := s_broken) l_broken c_broken (keep_fn l_broken)).binds (ps := ["code", "letter"]) fun _ _ _ _ _ _ us hl => match us, hl with | [_, _], _ => rfl, b_joined_letter := (fun_mk (st := s_joined_letter) l_joined_letter c_joined_letter (keep_fn l_joined_letter)).binds (ps := ["code", "text"]) fun _ _ _ _ _ _ us hl => match us, hl with | [_, _], _ => rfl, b_law_fount := (fun_mk (st := s_law_fount) l_law_fount c_law_fount (keep_fn l_law_fount)).binds (ps := ["script", "k"]) fun _ _ _ _ _ _ us hl => match us, hl with | [_, _], _ => rfl, b_law_dip := (fun_mk (st := s_law_dip) l_law_dip c_law_dip (keep_fn l_law_dip)).binds (ps := ["fount", "many"]) fun _ _ _ _ _ _ us hl => match us, hl with | [_, _], _ => rfl, b_law_word := (fun_mk (st := s_law_word) l_law_word c_law_word (keep_fn l_law_word)).binds (ps := ["fount", "most"]) fun _ _ _ _ _ _ us hl => match us, hl with | [_, _], _ => rfl, b_law_code := (fun_mk (st := s_law_code) l_law_code c_law_code (keep_fn l_law_code)).binds (ps := ["fount", "many", "most"]) fun _ _ _ _ _ _ us hl => match us, hl with | [_, _, _], _ => rfl, b_law_broken := (fun_mk (st := s_law_broken) l_law_broken c_law_broken (keep_fn l_law_broken)).binds (ps := ["code", "letter"]) fun _ _ _ _ _ _ us hl => match us, hl with | [_, _], _ => rfl, b_law_right := (fun_mk (st := s_law_right) l_law_right c_law_right (keep_fn l_law_right)).binds (ps := ["fount", "code"]) fun _ _ _ _ _ _ us hl => match us, hl with | [_, _], _ => rfl, b_law := (fun_mk (st := s_law) l_law c_law (keep_fn l_law)).binds (ps := ["script"]) fun _ _ _ _ _ _ us hl => match us, hl with | [_], _ => rfl, v_LEVERS := .ref q_LEVERS, u_LEVERS := .ref q_LEVERS, m_LEVERS := PySem.W.mg_of X G a_LEVERS, r_LEVERS := rfl, p_LEVERS := fun H => .tup (xs := [V.str "s", V.str "l"]) (.inr ⟨_, _, _, l_LEVERS, rfl, rfl, len_ok rfl, (.cons ⟨_, rfl⟩ (.cons ⟨_, rfl⟩ .nil))⟩) (.cons (.str _) (.cons (.str _) .nil)), v_LETTERS := .str "abcdefghijklmnopqrstuvwxyz0123456789", u_LETTERS := .str "abcdefghijklmnopqrstuvwxyz0123456789" t_LETTERS, m_LETTERS := PySem.W.mg_of X G a_LETTERS, r_LETTERS := ⟨_, rfl⟩, p_LETTERS := fun H => .str _, v_MOST_SIGNS := .int 8, u_MOST_SIGNS := .int 8 t_MOST_SIGNS, m_MOST_SIGNS := PySem.W.mg_of X G a_MOST_SIGNS, r_MOST_SIGNS := ⟨_, rfl⟩, p_MOST_SIGNS := fun H => .int _, n_abs := PySem.W.mg_none_of X G z_abs, n_all := PySem.W.mg_none_of X G z_all, n_dict := PySem.W.mg_none_of X G z_dict, n_int := PySem.W.mg_none_of X G z_int, n_isinstance := PySem.W.mg_none_of X G z_isinstance, n_len := PySem.W.mg_none_of X G z_len, n_list := PySem.W.mg_none_of X G z_list, n_max := PySem.W.mg_none_of X G z_max, n_min := PySem.W.mg_none_of X G z_min, n_range := PySem.W.mg_none_of X G z_range, n_repr := PySem.W.mg_none_of X G z_repr, n_sorted := PySem.W.mg_none_of X G z_sorted, n_str := PySem.W.mg_none_of X G z_str }
  refine ⟨T.d_law, fun s v => .of_eq rfl, fun base _ _ => ok_law T⟩
end K29
open PySem PySem.W PyProof.Rows
set_option maxRecDepth 100000 in
set_option maxHeartbeats 0 in
theorem PySem.Challenge.cw_squeezedkeyer_k29_letters_broken_and_joi_holds : PySem.Challenge.rw_squeezedkeyer_k29_letters_broken_and_joi.Holds := by
  w_on; o_law; k_head; (case hw => w_witness2)
  k_fill
  refine PW.walk_g (l := PySem.Challenge.rw_squeezedkeyer_k29_letters_broken_and_joi) (n := 63) (k := 9) (x := "script") rfl (by decide) rfl ⟨rfl, by decide, by decide⟩ (fun w h Y => PySem.W.kIn_of Y) ?F
  case F =>
    intro w mg fa h KX G hmg
    refine' K29.end_mk KX G hmg ?a_check_code ?l_check_code ?c_check_code ?a_has_letters ?l_has_letters ?c_has_letters ?a_is_letter ?l_is_letter ?c_is_letter ?a_wrong_letter ?l_wrong_letter ?c_wrong_letter ?a_is_word ?l_is_word ?c_is_word ?a_has_signs ?l_has_signs ?c_has_signs ?a_broken ?l_broken ?c_broken ?a_joined_letter ?l_joined_letter ?c_joined_letter ?a_law_fount ?l_law_fount ?c_law_fount ?a_law_dip ?l_law_dip ?c_law_dip ?a_law_word ?l_law_word ?c_law_word ?a_law_code ?l_law_code ?c_law_code ?a_law_broken ?l_law_broken ?c_law_broken ?a_law_right ?l_law_right ?c_law_right ?a_law ?l_law ?c_law ?a_LEVERS ?l_LEVERS ?a_LETTERS ?a_MOST_SIGNS ?z_abs ?z_all ?z_dict ?z_int ?z_isinstance ?z_len ?z_list ?z_max ?z_min ?z_range ?z_repr ?z_sorted ?z_str
    (case a_check_code => k_is)
    (case l_check_code => k_is)
    (case c_check_code => k_is)
    (case a_has_letters => k_is)
    (case l_has_letters => k_is)
    (case c_has_letters => k_is)
    (case a_is_letter => k_is)
    (case l_is_letter => k_is)
    (case c_is_letter => k_is)
    (case a_wrong_letter => k_is)
    (case l_wrong_letter => k_is)
    (case c_wrong_letter => k_is)
    (case a_is_word => k_is)
    (case l_is_word => k_is)
    (case c_is_word => k_is)
    (case a_has_signs => k_is)
    (case l_has_signs => k_is)
    (case c_has_signs => k_is)
    (case a_broken => k_is)
    (case l_broken => k_is)
    (case c_broken => k_is)
    (case a_joined_letter => k_is)
    (case l_joined_letter => k_is)
    (case c_joined_letter => k_is)
    (case a_law_fount => k_is)
    (case l_law_fount => k_is)
    (case c_law_fount => k_is)
    (case a_law_dip => k_is)
    (case l_law_dip => k_is)
    (case c_law_dip => k_is)
    (case a_law_word => k_is)
    (case l_law_word => k_is)
    (case c_law_word => k_is)
    (case a_law_code => k_is)
    (case l_law_code => k_is)
    (case c_law_code => k_is)
    (case a_law_broken => k_is)
    (case l_law_broken => k_is)
    (case c_law_broken => k_is)
    (case a_law_right => k_is)
    (case l_law_right => k_is)
    (case c_law_right => k_is)
    (case a_law => k_is)
    (case l_law => k_is)
    (case c_law => k_is)
    (case a_LEVERS => k_is)
    (case l_LEVERS => k_is)
    (case a_LETTERS => k_is)
    (case a_MOST_SIGNS => k_is)
    (case z_abs => k_is)
    (case z_all => k_is)
    (case z_dict => k_is)
    (case z_int => k_is)
    (case z_isinstance => k_is)
    (case z_len => k_is)
    (case z_list => k_is)
    (case z_max => k_is)
    (case z_min => k_is)
    (case z_range => k_is)
    (case z_repr => k_is)
    (case z_sorted => k_is)
    (case z_str => k_is)
