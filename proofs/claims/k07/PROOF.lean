import PyProof.Rows.All
import Wide.All
import OpenK.AllK
import Wide.FinOn
import PySem.Challenge.RW_maypoint_k07_letters_as_octets
import HandS.ForExc
import HandS.ForMost
import HandS.Wide
import HandS.TupAny
import HandS.IsInst
import HandS.Zip
import HandS.Walk
import HandS.Flow
import HandS.TupLe
import HandS.IntHex
import HandS.Style
set_option Elab.async false
set_option linter.all false
set_option maxRecDepth 100000
namespace Y
open PySem PySem.Spec PyProof.Rows L2

/-! ### data: tuples are values here -/
inductive D where
  | non | bl (b : Bool) | int (i : Int) | str (s : Str) | tup (xs : List D) | ref (a : Addr) | ty (n : String) | kl (xs : List D) | cl (n : String)
/-- what may be written, and the script -/
inductive HQ where
  | lst (xs : List D) | ins (n : String) (fs : List (Str × D)) | dic (kvs : List (D × D)) | exd (fs : List (Str × D))
abbrev Hq := Addr → Option HQ
def up (S : Hq) (a : Addr) (o : HQ) : Hq := fun b => if b = a then some o else S b
theorem up_same {S : Hq} {a : Addr} {o : HQ} : up S a o a = some o := if_pos rfl
theorem up_ne {S : Hq} {a b : Addr} {o : HQ} (h : b ≠ a) : up S a o b = S b := if_neg h

/-- a list that nobody can write: the script -/
def SqF (K : PySem.W.Frag) (H : Hp) (a : Addr) (xs : List V) : Prop :=
  (∃ o, H a = some (.frz o (.lst xs))) ∨
    ∃ (o : Obj) (its : Array Value) (n : Nat), K.lookup a = some o ∧ o.cls = .type "list" ∧ o.dict = none ∧ o.data = .seq its n ∧ its.size ≤ sizeLine ∧ Vals xs its.toList
theorem SqF.sql {K : PySem.W.Frag} {H : Hp} {a : Addr} {xs : List V} (h : SqF K H a xs) : SqL K H a xs := h.elim (fun h => .inl (.inr h)) .inr
/-- the class of this name stands at C -/
def CN (K : PySem.W.Frag) (n : String) (C : Addr) : Prop := PySem.W.nsIn K mainGlobals (Str.ofString n) = some (some (.ref C))
theorem CN.inj {K : PySem.W.Frag} {n : String} {C C' : Addr} (h : CN K n C) (h' : CN K n C') : C = C' := by unfold CN at h h'; rw [h] at h'; cases h'; rfl
mutual
inductive DV (K : PySem.W.Frag) (H : Hp) : D → V → Prop
  | non : DV K H .non .non
  | bl (b : Bool) : DV K H (.bl b) (.bl b)
  | int (i : Int) : DV K H (.int i) (.int i)
  | str (s : Str) : DV K H (.str s) (.str s)
  | ref (a : Addr) : DV K H (.ref a) (.ref a)
  | ty (n : String) : DV K H (.ty n) (.ty n)
  | tup {a : Addr} {xs : List V} {ds : List D} : SqT K H a xs → DVs K H ds xs → DV K H (.tup ds) (.ref a)
  | kl {a : Addr} {xs : List V} {ds : List D} : SqF K H a xs → DVs K H ds xs → DV K H (.kl ds) (.ref a)
  | cl {n : String} {C : Addr} : CN K n C → DV K H (.cl n) (.ref C)
inductive DVs (K : PySem.W.Frag) (H : Hp) : List D → List V → Prop
  | nil : DVs K H [] []
  | cons {d : D} {v : V} {ds : List D} {vs : List V} : DV K H d v → DVs K H ds vs → DVs K H (d :: ds) (v :: vs)
end
inductive Fls (K : PySem.W.Frag) (H : Hp) : List (Str × D) → List (Str × V) → Prop
  | nil : Fls K H [] []
  | cons {f : Str} {d : D} {v : V} {ds : List (Str × D)} {vs : List (Str × V)} : DV K H d v → Fls K H ds vs → Fls K H ((f, d) :: ds) ((f, v) :: vs)
inductive KD : D → Key → Prop
  | int (i : Int) : KD (.int i) (.inl i)
  | str (s : Str) : KD (.str s) (.inr s)
inductive KDs : List D → List Key → Prop
  | nil : KDs [] []
  | cons {d : D} {k : Key} {ds : List D} {ks : List Key} : KD d k → KDs ds ks → KDs (d :: ds) (k :: ks)
inductive DcK (K : PySem.W.Frag) (H : Hp) : List (D × D) → List (Key × V) → Prop
  | nil : DcK K H [] []
  | cons {k : D} {k' : Key} {d : D} {v : V} {ds : List (D × D)} {vs : List (Key × V)} : KD k k' → DV K H d v → DcK K H ds vs → DcK K H ((k, d) :: ds) ((k', v) :: vs)
inductive DcT (K : PySem.W.Frag) (H : Hp) : List (D × D) → List (List Key × V) → Prop
  | nil : DcT K H [] []
  | cons {k : List D} {k' : List Key} {d : D} {v : V} {ds : List (D × D)} {vs : List (List Key × V)} : KDs k k' → DV K H d v → DcT K H ds vs → DcT K H ((.tup k, d) :: ds) ((k', v) :: vs)

def RO (K : PySem.W.Frag) (H : Hp) (a : Addr) : HQ → Prop
  | .lst ds => ∃ xs, H a = some (.lst xs) ∧ DVs K H ds xs
  | .ins n fs => ∃ C dx ys, CN K n C ∧ H a = some (.ins C dx ys) ∧ Fls K H fs ys
  | .dic kvs => (∃ ys, H a = some (.dK ys) ∧ DcK K H kvs ys) ∨ (∃ ys, H a = some (.dT ys) ∧ DcT K H kvs ys)
  | .exd fs => ∃ ys, H a = some (.xd ys) ∧ Fls K H fs ys
def RH (K : PySem.W.Frag) (S : Hq) (H : Hp) : Prop := ∀ a o, S a = some o → RO K H a o
abbrev Sg := List (Option D)
structure RS (K : PySem.W.Frag) (H : Hp) (σ' : Sg) (σ : L2.St) : Prop where
  len : σ'.length = σ.length
  get : ∀ (i : Nat) d, σ'[i]? = some (some d) → ∃ v, σ[i]? = some (some v) ∧ DV K H d v
/-- what is tracked below and not here stands as it stood -/
def Fr (S : Hq) (H : Hp) (S' : Hq) (H' : Hp) : Prop := ∀ a o, H a = some o → S a = none → H' a = some o ∧ S' a = none
theorem Fr.refl {S : Hq} {H : Hp} : Fr S H S H := fun _ _ e n => ⟨e, n⟩
theorem Fr.trans {S S1 S2 : Hq} {H H1 H2 : Hp} (x : Fr S H S1 H1) (y : Fr S1 H1 S2 H2) : Fr S H S2 H2 := fun a o e n => y a o (x a o e n).1 (x a o e n).2
structure Tle (K : PySem.W.Frag) (H H' : Hp) : Prop where
  t : ∀ a xs, SqT K H a xs → SqT K H' a xs
  f : ∀ a xs, SqF K H a xs → SqF K H' a xs
section
variable {K : PySem.W.Frag} {S S' : Hq} {H H' : Hp} {a : Addr}
theorem Fr.tle (r : RH K S H) (f : Fr S H S' H') : Tle K H H' := by
  have un : ∀ {a : Addr} {o : HO}, H a = some o → (∀ xs, o ≠ .lst xs) → (∀ C d fs, o ≠ .ins C d fs) → (∀ k, o ≠ .dK k) → (∀ k, o ≠ .dT k) → (∀ k, o ≠ .xd k) → S a = none := fun {a o} h n1 n2 n3 n4 n5 => by
    cases e : S a with
    | none => rfl
    | some u =>
      have q := r a u e
      cases u with
      | lst ds => obtain ⟨xs, q, _⟩ := q; rw [h] at q; exact absurd (Option.some.inj q) (n1 _)
      | ins C fs => obtain ⟨_, dx, ys, _, q, _⟩ := q; rw [h] at q; exact absurd (Option.some.inj q) (n2 _ _ _)
      | dic kvs => rcases q with ⟨ys, q, _⟩ | ⟨ys, q, _⟩ <;> rw [h] at q
                   · exact absurd (Option.some.inj q) (n3 _)
                   · exact absurd (Option.some.inj q) (n4 _)
      | exd fs => obtain ⟨ys, q, _⟩ := q; rw [h] at q; exact absurd (Option.some.inj q) (n5 _)
  refine ⟨fun a xs h => ?_, fun a xs h => ?_⟩
  · rcases h with (h | ⟨o, h⟩) | h
    · exact .inl (.inl (f a _ h (un h (fun _ z => by cases z) (fun _ _ _ z => by cases z) (fun _ z => by cases z) (fun _ z => by cases z) (fun _ z => by cases z))).1)
    · exact .inl (.inr ⟨o, (f a _ h (un h (fun _ z => by cases z) (fun _ _ _ z => by cases z) (fun _ z => by cases z) (fun _ z => by cases z) (fun _ z => by cases z))).1⟩)
    · exact .inr h
  · rcases h with ⟨o, h⟩ | h
    · exact .inl ⟨o, (f a _ h (un h (fun _ z => by cases z) (fun _ _ _ z => by cases z) (fun _ z => by cases z) (fun _ z => by cases z) (fun _ z => by cases z))).1⟩
    · exact .inr h
mutual
theorem DV.mono (t : Tle K H H') : ∀ (d : D) (v : V), DV K H d v → DV K H' d v
  | .non, _, h => by cases h; exact .non
  | .bl _, _, h => by cases h; exact .bl _
  | .int _, _, h => by cases h; exact .int _
  | .str _, _, h => by cases h; exact .str _
  | .ref _, _, h => by cases h; exact .ref _
  | .ty _, _, h => by cases h; exact .ty _
  | .tup ds, _, h => by cases h with | tup s r => exact .tup (t.t _ _ s) (DVs.mono t ds _ r)
  | .kl ds, _, h => by cases h with | kl s r => exact .kl (t.f _ _ s) (DVs.mono t ds _ r)
  | .cl n, _, h => by cases h with | cl c => exact .cl c
theorem DVs.mono (t : Tle K H H') : ∀ (ds : List D) (vs : List V), DVs K H ds vs → DVs K H' ds vs
  | [], _, h => by cases h; exact .nil
  | d :: ds, _, h => by cases h with | cons x r => exact .cons (DV.mono t d _ x) (DVs.mono t ds _ r)
end

theorem Fls.mono (t : Tle K H H') : ∀ {ds : List (Str × D)} {vs : List (Str × V)}, Fls K H ds vs → Fls K H' ds vs
  | _, _, .nil => .nil
  | _, _, .cons x r => .cons (DV.mono t _ _ x) (Fls.mono t r)
theorem DcK.mono (t : Tle K H H') : ∀ {ds : List (D × D)} {vs : List (Key × V)}, DcK K H ds vs → DcK K H' ds vs
  | _, _, .nil => .nil
  | _, _, .cons k x r => .cons k (DV.mono t _ _ x) (DcK.mono t r)
theorem DcT.mono (t : Tle K H H') : ∀ {ds : List (D × D)} {vs : List (List Key × V)}, DcT K H ds vs → DcT K H' ds vs
  | _, _, .nil => .nil
  | _, _, .cons k x r => .cons k (DV.mono t _ _ x) (DcT.mono t r)
theorem RO.stay (t : Tle K H H') {o : HQ} (x : RO K H a o) (e : H' a = H a) : RO K H' a o := by
  cases o with
  | lst ds => obtain ⟨xs, q, r⟩ := x; exact ⟨xs, e.trans q, DVs.mono t _ _ r⟩
  | ins n fs => obtain ⟨C, dx, ys, c, q, r⟩ := x; exact ⟨C, dx, ys, c, e.trans q, r.mono t⟩
  | dic kvs =>
    rcases x with ⟨ys, q, r⟩ | ⟨ys, q, r⟩
    · exact .inl ⟨ys, e.trans q, r.mono t⟩
    · exact .inr ⟨ys, e.trans q, r.mono t⟩
  | exd fs => obtain ⟨ys, q, r⟩ := x; exact ⟨ys, e.trans q, r.mono t⟩
theorem RS.mono (t : Tle K H H') {σ' : Sg} {σ : L2.St} (x : RS K H σ' σ) : RS K H' σ' σ :=
  ⟨x.len, fun i d e => let ⟨v, q, r⟩ := x.get i d e; ⟨v, q, DV.mono t _ _ r⟩⟩
theorem RS.set {σ' : Sg} {σ : L2.St} (x : RS K H σ' σ) {d : D} {v : V} (r : DV K H d v) (i : Nat) : RS K H (σ'.set i (some d)) (σ.set i (some v)) := by
  refine ⟨by simp [x.len], fun j e h => ?_⟩
  by_cases c : i = j
  · subst c
    by_cases hi : i < σ'.length
    · rw [List.getElem?_set_self hi] at h
      cases h
      exact ⟨v, by rw [List.getElem?_set_self (by rw [← x.len]; exact hi)], r⟩
    · rw [List.getElem?_eq_none (by simpa using hi)] at h
      cases h
  · rw [List.getElem?_set_ne c] at h
    obtain ⟨w, q, r'⟩ := x.get j e h
    exact ⟨w, by rw [List.getElem?_set_ne c]; exact q, r'⟩
theorem RH.fresh (r : RH K S H) (h : H a = none) : S a = none := by
  cases e : S a with
  | none => rfl
  | some o =>
    have q := r a o e
    cases o with
    | lst ds => obtain ⟨xs, q, _⟩ := q; rw [h] at q; cases q
    | ins n fs => obtain ⟨_, dx, ys, _, q, _⟩ := q; rw [h] at q; cases q
    | dic kvs => rcases q with ⟨ys, q, _⟩ | ⟨ys, q, _⟩ <;> (rw [h] at q; cases q)
    | exd fs => obtain ⟨ys, q, _⟩ := q; rw [h] at q; cases q
/-- a new thing below that is not tracked here -/
theorem Fr.new (r : RH K S H) {o : HO} (h : H a = none) : Fr S H S (upd H a o) := fun b u e n => ⟨by rw [upd_ne (ne_of_none e h)]; exact e, n⟩
theorem RH.new (r : RH K S H) {o : HO} (h : H a = none) : RH K S (upd H a o) := fun b u e => by
  have hb : b ≠ a := fun z => by rw [z, r.fresh h] at e; cases e
  exact (r b u e).stay ((Fr.new r h).tle r) (upd_ne hb)
/-- a new thing, tracked here too -/
theorem Fr.new2 (r : RH K S H) {o : HO} {q : HQ} (h : H a = none) : Fr S H (up S a q) (upd H a o) := fun b u e n =>
  have hb : b ≠ a := ne_of_none e h
  ⟨by rw [upd_ne hb]; exact e, by rw [up_ne hb]; exact n⟩
theorem RH.new2 (r : RH K S H) {o : HO} {q : HQ} (h : H a = none) (ok : RO K (upd H a o) a q) : RH K (up S a q) (upd H a o) := fun b u e => by
  by_cases hb : b = a
  · subst hb; rw [up_same] at e; cases e; exact ok
  · rw [up_ne hb] at e
    exact (r b u e).stay ((Fr.new r h).tle r) (upd_ne hb)
/-- a tracked thing is written -/
theorem Fr.put {o : HO} {q u : HQ} (h : S a = some u) : Fr S H (up S a q) (upd H a o) := fun b v e n =>
  have hb : b ≠ a := fun z => by rw [z, h] at n; cases n
  ⟨by rw [upd_ne hb]; exact e, by rw [up_ne hb]; exact n⟩
theorem RH.put (r : RH K S H) {o : HO} {q u : HQ} (h : S a = some u) (ok : RO K (upd H a o) a q) : RH K (up S a q) (upd H a o) := fun b v e => by
  by_cases hb : b = a
  · subst hb; rw [up_same] at e; cases e; exact ok
  · rw [up_ne hb] at e
    exact (r b v e).stay ((Fr.put (q := q) h).tle r) (upd_ne hb)
theorem RH.putTle (r : RH K S H) {o : HO} {u : HQ} (h : S a = some u) : Tle K H (upd H a o) := (Fr.put (q := u) h).tle r
theorem DVs.length : ∀ {ds : List D} {vs : List V}, DVs K H ds vs → ds.length = vs.length
  | _, _, .nil => rfl
  | _, _, .cons _ r => congrArg (· + 1) (DVs.length r)
theorem DVs.app : ∀ {ds es : List D} {vs ws : List V}, DVs K H ds vs → DVs K H es ws → DVs K H (ds ++ es) (vs ++ ws)
  | _, _, _, _, .nil, s => s
  | _, _, _, _, .cons x r, s => .cons x (DVs.app r s)
theorem DVs.get : ∀ {ds : List D} {vs : List V} {i : Nat} {d : D}, DVs K H ds vs → ds[i]? = some d → ∃ v, vs[i]? = some v ∧ DV K H d v
  | _, _, _, _, .nil, e => by simp at e
  | _, _, 0, _, .cons x r, e => by simp at e; subst e; exact ⟨_, rfl, x⟩
  | _, _, i + 1, _, .cons x r, e => by
    rw [List.getElem?_cons_succ] at e ⊢
    exact DVs.get r e
theorem DVs.set : ∀ {ds : List D} {vs : List V} {d : D} {v : V} (i : Nat), DVs K H ds vs → DV K H d v → DVs K H (ds.set i d) (vs.set i v)
  | _, _, _, _, _, .nil, _ => .nil
  | _, _, _, _, 0, .cons x r, y => .cons y r
  | _, _, _, _, i + 1, .cons x r, y => .cons x (DVs.set i r y)
theorem DVs.drop : ∀ {ds : List D} {vs : List V} (i : Nat), DVs K H ds vs → DVs K H (ds.drop i) (vs.drop i)
  | _, _, 0, r => r
  | _, _, _ + 1, .nil => .nil
  | _, _, i + 1, .cons _ r => DVs.drop i r
theorem DVs.take : ∀ {ds : List D} {vs : List V} (i : Nat), DVs K H ds vs → DVs K H (ds.take i) (vs.take i)
  | _, _, 0, _ => .nil
  | _, _, _ + 1, .nil => .nil
  | _, _, i + 1, .cons x r => .cons x (DVs.take i r)
end

/-! ### the judgements -/
abbrev Qv := D → Hq → Prop
abbrev Xw := String → List (Str × D) → Hq → Prop
abbrev RE := Sg → Hq → Qv → Xw → Prop
abbrev RT := Sg → Hq → (Bool → Hq → Prop) → Xw → Prop
abbrev RA := Sg → Hq → (List D → Hq → Prop) → Xw → Prop
structure En where
  nx : Sg → Hq → Prop
  rt : Qv
  bk : Sg → Hq → Prop := fun _ _ => False
  ct : Sg → Hq → Prop := fun _ _ => False
  ex : String → List (Str × D) → Sg → Hq → Prop := fun _ _ _ _ => False
abbrev RSt := En → Sg → Hq → Prop
def XOk (K : PySem.W.Frag) (H : Hp) (d : Addr) (fs : List (Str × D)) : Prop := ∃ ys, H d = some (.xd ys) ∧ Fls K H fs ys
/-- what follows here gives what follows below -/
def QI (K : PySem.W.Frag) (S : Hq) (H : Hp) (Q' : Qv) (Q : VK) : Prop := ∀ d S' v H', Fr S H S' H' → RH K S' H' → DV K H' d v → Q' d S' → Q v H'
def QT (K : PySem.W.Frag) (S : Hq) (H : Hp) (Q' : Bool → Hq → Prop) (Q : Bool → Hp → Prop) : Prop := ∀ b S' H', Fr S H S' H' → RH K S' H' → Q' b S' → Q b H'
def QA (K : PySem.W.Frag) (S : Hq) (H : Hp) (Q' : List D → Hq → Prop) (Q : List V → Hp → Prop) : Prop := ∀ d S' v H', Fr S H S' H' → RH K S' H' → DVs K H' d v → Q' d S' → Q v H'
/-- the error's own dict is a new one -/
def Nw (S : Hq) (H : Hp) (S' : Hq) (d : Addr) : Prop := (∀ o, H d = some o → S d ≠ none) ∧ S' d = none
theorem Nw.go {S S1 S2 : Hq} {H H1 : Hp} {d : Addr} (f : Fr S H S1 H1) (n : Nw S1 H1 S2 d) : Nw S H S2 d := ⟨fun o e z => n.1 o (f d o e z).1 (f d o e z).2, n.2⟩
def XI (K : PySem.W.Frag) (S : Hq) (H : Hp) (E' : Xw) (E : XK) : Prop := ∀ n C fs S' H' d, CN K n C → Fr S H S' H' → RH K S' H' → XOk K H' d fs → Nw S H S' d → E' n fs S' → E (.ref C) (some d) H'
def SI (K : PySem.W.Frag) (S : Hq) (H : Hp) (N' : Sg → Hq → Prop) (N : L2.St → Hp → Prop) : Prop := ∀ σ' S' σ H', Fr S H S' H' → RH K S' H' → RS K H' σ' σ → N' σ' S' → N σ H'
structure DI (K : PySem.W.Frag) (W : WX) (S : Hq) (H : Hp) (D' : En) (D : Ends) : Prop where
  nx : SI K S H D'.nx D.nx
  rt : QI K S H D'.rt D.rt
  bk : SI K S H D'.bk D.bk
  ct : SI K S H D'.ct D.ct
  ex : ∀ n C fs σ' S' σ H' d, CN K n C → Fr S H S' H' → RH K S' H' → RS K H' σ' σ → XOk K H' d fs → Nw S H S' d → D'.ex n fs σ' S' → W (.ref C) (some d) σ H'
section
variable {K : PySem.W.Frag} {S S' : Hq} {H H' : Hp} {W : WX}
theorem QI.go {Q' : Qv} {Q : VK} (x : QI K S H Q' Q) (f : Fr S H S' H') : QI K S' H' Q' Q := fun d S2 v H2 f2 => x d S2 v H2 (f.trans f2)
theorem QT.go {Q' : Bool → Hq → Prop} {Q : Bool → Hp → Prop} (x : QT K S H Q' Q) (f : Fr S H S' H') : QT K S' H' Q' Q := fun d S2 H2 f2 => x d S2 H2 (f.trans f2)
theorem QA.go {Q' : List D → Hq → Prop} {Q : List V → Hp → Prop} (x : QA K S H Q' Q) (f : Fr S H S' H') : QA K S' H' Q' Q := fun d S2 v H2 f2 => x d S2 v H2 (f.trans f2)
theorem XI.go {E' : Xw} {E : XK} (x : XI K S H E' E) (f : Fr S H S' H') : XI K S' H' E' E := fun n C fs S2 H2 d c f2 rh ok nw => x n C fs S2 H2 d c (f.trans f2) rh ok (nw.go f)
theorem SI.go {N' : Sg → Hq → Prop} {N : L2.St → Hp → Prop} (x : SI K S H N' N) (f : Fr S H S' H') : SI K S' H' N' N := fun σ' S2 σ H2 f2 => x σ' S2 σ H2 (f.trans f2)
theorem DI.go {D' : En} {D : Ends} (x : DI K W S H D' D) (f : Fr S H S' H') : DI K W S' H' D' D :=
  ⟨x.nx.go f, x.rt.go f, x.bk.go f, x.ct.go f, fun n C fs σ' S2 σ H2 d c f2 rh rs ok nw => x.ex n C fs σ' S2 σ H2 d c (f.trans f2) rh rs ok (nw.go f)⟩
end
abbrev wx (W : WX) (σ : L2.St) : XK := fun c d H => W c d σ H
structure EV (X : Cx) (W : WX) (e : Expr) (t : RE) : Prop where
  ex : ∃ T, PE X e T ∧ ∀ (σ : L2.St) (σ' : Sg) (H : Hp) (S : Hq) (Q : VK) (Q' : Qv) (E' : Xw), RS X.K H σ' σ → RH X.K S H → t σ' S Q' E' → QI X.K S H Q' Q → XI X.K S H E' (wx W σ) → T σ H Q
structure ET (X : Cx) (W : WX) (e : Expr) (t : RT) : Prop where
  ex : ∃ T, PT X e T ∧ ∀ (σ : L2.St) (σ' : Sg) (H : Hp) (S : Hq) (Q : Bool → Hp → Prop) (Q' : Bool → Hq → Prop) (E' : Xw), RS X.K H σ' σ → RH X.K S H → t σ' S Q' E' → QT X.K S H Q' Q → XI X.K S H E' (wx W σ) → T σ H Q
structure EW (X : Cx) (W : WX) (e : Expr) (t : RT) : Prop where
  ex : ∃ T, PW X e T ∧ ∀ (σ : L2.St) (σ' : Sg) (H : Hp) (S : Hq) (Q : Bool → Hp → Prop) (Q' : Bool → Hq → Prop) (E' : Xw), RS X.K H σ' σ → RH X.K S H → t σ' S Q' E' → QT X.K S H Q' Q → XI X.K S H E' (wx W σ) → T σ H Q
structure EA (X : Cx) (W : WX) (es : List Expr) (t : RA) : Prop where
  ex : ∃ T, PA X es T ∧ ∀ (σ : L2.St) (σ' : Sg) (H : Hp) (S : Hq) (Q : List V → Hp → Prop) (Q' : List D → Hq → Prop) (E' : Xw), RS X.K H σ' σ → RH X.K S H → t σ' S Q' E' → QA X.K S H Q' Q → XI X.K S H E' (wx W σ) → T σ H Q
structure ES (X : Cx) (W : WX) (st : Stmt) (t : RSt) : Prop where
  ex : ∃ T, PS X st T ∧ ∀ (σ : L2.St) (σ' : Sg) (H : Hp) (S : Hq) (D : Ends) (D' : En), RS X.K H σ' σ → RH X.K S H → t D' σ' S → DI X.K W S H D' D → T D σ H
structure EB (X : Cx) (W : WX) (st : List Stmt) (t : RSt) : Prop where
  ex : ∃ T, PSs X st T ∧ ∀ (σ : L2.St) (σ' : Sg) (H : Hp) (S : Hq) (D : Ends) (D' : En), RS X.K H σ' σ → RH X.K S H → t D' σ' S → DI X.K W S H D' D → T D σ H
end Y
namespace Y
open PySem PySem.Spec PyProof.Rows L2
abbrev R2q := D → D → Hq → Qv → Prop
theorem big_le {n : Nat} (h : n ≤ 1000000) : n ≤ sizeLine := Nat.le_trans h (by rw [sizeLine_eq]; decide)
theorem big_lt {n : Nat} (h : n < 1000000) : n < sizeLine := Nat.lt_of_lt_of_le h (by rw [sizeLine_eq]; decide)
abbrev LsR (S : Hq) (a : Addr) (xs : List D) : Prop := S a = some (.lst xs)
section
variable {K : PySem.W.Frag} {S : Hq} {H : Hp} {Q' : Qv} {Q : VK} {d : D} {v : V} {p a : Addr} {ds es : List D} {xs : List V}
theorem QI.here (q : QI K S H Q' Q) (r : RH K S H) (x : DV K H d v) (h : Q' d S) : Q v H := q d S v H Fr.refl r x h
theorem QI.newL (q : QI K S H Q' Q) (r : RH K S H) (hp : H p = none) (x : DVs K H ds xs) (h : Q' (.ref p) (up S p (.lst ds))) : Q (.ref p) (upd H p (.lst xs)) :=
  q _ _ _ _ (Fr.new2 r hp) (r.new2 (q := .lst ds) hp ⟨xs, upd_same, DVs.mono ((Fr.new r hp).tle r) _ _ x⟩) (.ref p) h
theorem QI.newT (q : QI K S H Q' Q) (r : RH K S H) (hp : H p = none) (x : DVs K H ds xs) (h : Q' (.tup ds) S) : Q (.ref p) (upd H p (.tup xs)) :=
  q _ _ _ _ (Fr.new r hp) (r.new hp) (.tup (.inl (.inl upd_same)) (DVs.mono ((Fr.new r hp).tle r) _ _ x)) h
theorem QI.putL (q : QI K S H Q' Q) (r : RH K S H) {es : List D} (hp : S p = some (.lst es)) (x : DVs K H ds xs) (y : DV K H d v) (h : Q' d (up S p (.lst ds))) : Q v (upd H p (.lst xs)) :=
  have t : Tle K H (upd H p (.lst xs)) := r.putTle hp
  q _ _ _ _ (Fr.put hp) (r.put (q := .lst ds) hp ⟨xs, upd_same, DVs.mono t _ _ x⟩) (DV.mono t _ _ y) h
theorem RH.sql (r : RH K S H) (h : LsR S a ds) : ∃ xs, SqL K H a xs ∧ DVs K H ds xs := by
  obtain ⟨xs, e, x⟩ := r a _ h; exact ⟨xs, .inl (.inl e), x⟩
theorem RH.lst (r : RH K S H) (h : S a = some (.lst ds)) : ∃ xs, H a = some (.lst xs) ∧ DVs K H ds xs := r a _ h
end
theorem opr_or {X : Cx} {f : Value → Value → Sem Value} {r r' : R2} (h : OpR X f r) (h' : OpR X f r') : OpR X f (fun x y H Q => r x y H Q ∨ r' x y H Q) := by
  intro pins s σ H x y v u Q I rx ry q
  rcases q with q | q
  · exact h pins s σ H x y v u Q I rx ry q
  · exact h' pins s σ H x y v u Q I rx ry q
theorem callr_or {X : Cx} {f : Value} {r r' : List V → Hp → VK → Prop} (h : CallR X f r) (h' : CallR X f r') : CallR X f (fun xs H Q => r xs H Q ∨ r' xs H Q) := by
  intro pins s σ H xs us Q I rx q
  rcases q with q | q
  · exact h pins s σ H xs us Q I rx q
  · exact h' pins s σ H xs us Q I rx q
def Lift2 (K : PySem.W.Frag) (f : R2q) (r : R2) : Prop := ∀ x y S H Q' Q v u, RH K S H → DV K H x v → DV K H y u → f x y S Q' → QI K S H Q' Q → r v u H Q

/-! ### names, constants -/
def asB (x : D) (f : Bool → Prop) : Prop := match x with | .bl k => f k | _ => False
def asI (x : D) (f : Int → Prop) : Prop := match x with | .int k => f k | _ => False
def rVar (i : Nat) : RE := fun σ S Q _ => match σ[i]? with | some (some d) => Q d S | _ => False
def rC (d : D) : RE := fun _ S Q _ => Q d S
def rBin (f : R2q) (ra rb : RE) : RE := fun σ S Q E => ra σ S (fun x S1 => rb σ S1 (fun y S2 => f x y S2 Q) E) E
def rUn (f : D → Hq → Qv → Prop) (ra : RE) : RE := fun σ S Q E => ra σ S (fun x S1 => f x S1 Q) E
section
variable {X : Cx} {W : WX} {a b c : Expr} {ra rb rc : RE} {pos : Pos}
theorem ev_var (i : Nat) {x : Str} (hN : X.N[i]? = some x := by rfl) (hv : Vis X.env.scope x := by first | exact Or.inl rfl | exact Or.inr (Or.inl rfl) | exact Or.inr (Or.inr rfl)) (hd : (x == ("__debug__" : Str)) = false := by decide)
    (hcd : (x == ("__classdict__" : Str)) = false := by decide) : EV X W (.Name x pos) (rVar i) := by
  refine ⟨_, pe_var hN hv hd hcd, fun σ σ' H S Q Q' E' rs rh h q _ => ?_⟩
  unfold rVar at h
  split at h
  · rename_i d e
    obtain ⟨v, e', r⟩ := rs.get i d e
    exact ⟨v, e', q.here rh r h⟩
  · exact h.elim
theorem ev_int {i : Int} {j} : EV X W (.Constant (.int i) j pos) (rC (.int i)) := ⟨_, pe_int, fun σ σ' H S Q Q' E' rs rh h q _ => q.here rh (.int i) h⟩
theorem ev_bl {i : Bool} {j} : EV X W (.Constant (.bool i) j pos) (rC (.bl i)) := ⟨_, pe_bl, fun σ σ' H S Q Q' E' rs rh h q _ => q.here rh (.bl i) h⟩
theorem ev_non {j} : EV X W (.Constant .none j pos) (rC .non) := ⟨_, pe_non, fun σ σ' H S Q Q' E' rs rh h q _ => q.here rh .non h⟩
theorem ev_str {i : Str} {j} : EV X W (.Constant (.str i) j pos) (rC (.str i)) := ⟨_, pe_str, fun σ σ' H S Q Q' E' rs rh h q _ => q.here rh (.str i) h⟩
/-- a module's constant -/
theorem ev_glob {x : Str} {d : D} {v : V} {u : Value} (hg : Gl X x) (hm : X.mg x = some u) (r : RelV v u) (dv : ∀ H, DV X.K H d v) (hd : (x == ("__debug__" : Str)) = false := by decide) : EV X W (.Name x pos) (rC d) :=
  ⟨_, pe_glob hg hm r hd, fun σ σ' H S Q Q' E' rs rh h q _ => q.here rh (dv H) h⟩
theorem ev_bin {op : Operator} {f : R2q} {r : R2} (ho : OpR X (binaryOp op) r) (hl : Lift2 X.K f r) (ha : EV X W a ra) (hb : EV X W b rb) : EV X W (.BinOp a op b pos) (rBin f ra rb) := by
  obtain ⟨Ta, pa, la⟩ := ha.ex
  obtain ⟨Tb, pb, lb⟩ := hb.ex
  refine ⟨_, pe_op ho pa pb, fun σ σ' H S Q Q' E' rs rh h q xi => ?_⟩
  refine la σ σ' H S _ _ E' rs rh h (fun d S1 v H1 f1 rh1 dv h1 => ?_) xi
  refine lb σ σ' H1 S1 _ _ E' (rs.mono (f1.tle rh)) rh1 h1 (fun e S2 u H2 f2 rh2 du h2 => ?_) (xi.go f1)
  exact hl _ _ _ _ _ _ _ _ rh2 (DV.mono (f2.tle rh1) _ _ dv) du h2 (q.go (f1.trans f2))
theorem ev_cmp {op : CmpOp} {f : R2q} {r : R2} (ho : OpR X (compareOp op) r) (hl : Lift2 X.K f r) (ha : EV X W a ra) (hb : EV X W b rb) (hm : behindInMarks op b = false := by first | rfl | exact nomark _) : EV X W (.Compare a [op] [b] pos) (rBin f ra rb) := by
  obtain ⟨Ta, pa, la⟩ := ha.ex
  obtain ⟨Tb, pb, lb⟩ := hb.ex
  refine ⟨_, pe_cmpR ho pa pb hm, fun σ σ' H S Q Q' E' rs rh h q xi => ?_⟩
  refine la σ σ' H S _ _ E' rs rh h (fun d S1 v H1 f1 rh1 dv h1 => ?_) xi
  refine lb σ σ' H1 S1 _ _ E' (rs.mono (f1.tle rh)) rh1 h1 (fun e S2 u H2 f2 rh2 du h2 => ?_) (xi.go f1)
  exact hl _ _ _ _ _ _ _ _ rh2 (DV.mono (f2.tle rh1) _ _ dv) du h2 (q.go (f1.trans f2))
/-- a test: the value must be a bool -/
def rTst (r : RE) : RT := fun σ S Q E => r σ S (fun x S1 => asB x fun k => Q k S1) E
theorem et_cmp {op : CmpOp} {f : R2q} {r : R2} (ho : OpR X (compareOp op) r) (hl : Lift2 X.K f r) (ha : EV X W a ra) (hb : EV X W b rb) (hm : behindInMarks op b = false := by first | rfl | exact nomark _) : ET X W (.Compare a [op] [b] pos) (rTst (rBin f ra rb)) := by
  obtain ⟨Ta, pa, la⟩ := ha.ex
  obtain ⟨Tb, pb, lb⟩ := hb.ex
  refine ⟨_, pt_cmpR ho pa pb hm, fun σ σ' H S Q Q' E' rs rh h q xi => ?_⟩
  refine la σ σ' H S _ _ E' rs rh h (fun d S1 v H1 f1 rh1 dv h1 => ?_) xi
  refine lb σ σ' H1 S1 _ _ E' (rs.mono (f1.tle rh)) rh1 h1 (fun e S2 u H2 f2 rh2 du h2 => ?_) (xi.go f1)
  refine hl _ _ _ _ _ _ _ _ rh2 (DV.mono (f2.tle rh1) _ _ dv) du h2 fun z S3 w H3 f3 rh3 dz h3 => ?_
  cases z <;> try exact h3.elim
  cases dz
  exact ⟨_, rfl, q _ _ _ ((f1.trans f2).trans f3) rh3 h3⟩
def rChn (f f' : R2q) (ra rb rc : RE) : RE := fun σ S Q E => ra σ S (fun x S1 => rb σ S1 (fun y S2 => f x y S2 (fun z S3 => asB z fun k => if k = true then rc σ S3 (fun w S4 => f' y w S4 Q) E else Q (.bl false) S3)) E) E
theorem ev_chn {op op' : CmpOp} {f f' : R2q} {r r' : R2} (ho : OpR X (compareOp op) r) (hl : Lift2 X.K f r) (ho' : OpR X (compareOp op') r') (hl' : Lift2 X.K f' r') (ha : EV X W a ra) (hb : EV X W b rb) (hc : EV X W c rc)
    (hm : lastMarks [op, op'] [b, c] = false := by with_unfolding_all rfl) : EV X W (.Compare a [op, op'] [b, c] pos) (rChn f f' ra rb rc) := by
  obtain ⟨Ta, pa, la⟩ := ha.ex
  obtain ⟨Tb, pb, lb⟩ := hb.ex
  obtain ⟨Tc, pc, lc⟩ := hc.ex
  refine ⟨_, pe_chain ho ho' pa pb pc hm, fun σ σ' H S Q Q' E' rs rh h q xi => ?_⟩
  refine la σ σ' H S _ _ E' rs rh h (fun d S1 v H1 f1 rh1 dv h1 => ?_) xi
  refine lb σ σ' H1 S1 _ _ E' (rs.mono (f1.tle rh)) rh1 h1 (fun e S2 u H2 f2 rh2 du h2 => ?_) (xi.go f1)
  refine hl _ _ _ _ _ _ _ _ rh2 (DV.mono (f2.tle rh1) _ _ dv) du h2 fun z S3 w H3 f3 rh3 dz h3 => ?_
  cases z <;> try exact h3.elim
  rename_i k
  cases dz
  refine ⟨k, rfl, ?_⟩
  have f03 := (f1.trans f2).trans f3
  cases k with
  | false => exact q _ _ _ _ f03 rh3 (.bl false) h3
  | true =>
    refine lc σ σ' H3 S3 _ _ E' (rs.mono (f03.tle rh)) rh3 h3 (fun e4 S4 u4 H4 f4 rh4 du4 h4 => ?_) (xi.go f03)
    exact hl' _ _ _ _ _ _ _ _ rh4 (DV.mono ((f3.trans f4).tle rh2) _ _ du) du4 h4 (q.go (f03.trans f4))
theorem et_chn {op op' : CmpOp} {f f' : R2q} {r r' : R2} (ho : OpR X (compareOp op) r) (hl : Lift2 X.K f r) (ho' : OpR X (compareOp op') r') (hl' : Lift2 X.K f' r') (ha : EV X W a ra) (hb : EV X W b rb) (hc : EV X W c rc)
    (hm : lastMarks [op, op'] [b, c] = false := by with_unfolding_all rfl) : ET X W (.Compare a [op, op'] [b, c] pos) (rTst (rChn f f' ra rb rc)) := by
  obtain ⟨Ta, pa, la⟩ := ha.ex
  obtain ⟨Tb, pb, lb⟩ := hb.ex
  obtain ⟨Tc, pc, lc⟩ := hc.ex
  refine ⟨_, pt_chain ho ho' pa pb pc hm, fun σ σ' H S Q Q' E' rs rh h q xi => ?_⟩
  refine la σ σ' H S _ _ E' rs rh h (fun d S1 v H1 f1 rh1 dv h1 => ?_) xi
  refine lb σ σ' H1 S1 _ _ E' (rs.mono (f1.tle rh)) rh1 h1 (fun e S2 u H2 f2 rh2 du h2 => ?_) (xi.go f1)
  refine hl _ _ _ _ _ _ _ _ rh2 (DV.mono (f2.tle rh1) _ _ dv) du h2 fun z S3 w H3 f3 rh3 dz h3 => ?_
  cases z <;> try exact h3.elim
  rename_i k
  cases dz
  refine ⟨k, rfl, ?_⟩
  have f03 := (f1.trans f2).trans f3
  cases k with
  | false => exact ⟨_, rfl, q _ _ _ f03 rh3 h3⟩
  | true =>
    refine lc σ σ' H3 S3 _ _ E' (rs.mono (f03.tle rh)) rh3 h3 (fun e4 S4 u4 H4 f4 rh4 du4 h4 => ?_) (xi.go f03)
    refine hl' _ _ _ _ _ _ _ _ rh4 (DV.mono ((f3.trans f4).tle rh2) _ _ du) du4 h4 fun z5 S5 w5 H5 f5 rh5 dz5 h5 => ?_
    cases z5 <;> try exact h5.elim
    cases dz5
    exact ⟨_, rfl, q _ _ _ ((f03.trans f4).trans f5) rh5 h5⟩
theorem et_val {r : RE} (h : EV X W a r) (he : ∀ whole, isTrue a X.env whole = (do let v ← whole; standAt a.pos; holding [v] (truthy v)) := by intro _; rfl) : ET X W a (rTst r) := by
  obtain ⟨T, p, l⟩ := h.ex
  refine ⟨_, pt_val p he, fun σ σ' H S Q Q' E' rs rh h q xi => ?_⟩
  refine l σ σ' H S _ _ E' rs rh h (fun d S1 v H1 f1 rh1 dv h1 => ?_) xi
  cases d <;> try exact h1.elim
  cases dv
  exact ⟨_, rfl, q _ _ _ f1 rh1 h1⟩
/-- truth of any value -/
def truD (x : D) (S : Hq) (Q : Bool → Prop) : Prop := match x with
  | .non => Q false | .bl b => Q b | .int i => Q (i != 0)
  | .str y => y.length ≤ 1000000 ∧ Q ((y.length : Int) != 0)
  | .tup xs => Q (!xs.isEmpty)
  | .ref a => ∃ xs, LsR S a xs ∧ Q (!xs.isEmpty)
  | .kl xs => Q (!xs.isEmpty)
  | _ => False
def rTru (r : RE) : RT := fun σ S Q E => r σ S (fun x S1 => truD x S1 (fun k => Q k S1)) E
theorem DVs.emp {K : PySem.W.Frag} {H : Hp} {ds : List D} {vs : List V} (x : DVs K H ds vs) : ds.isEmpty = vs.isEmpty := by cases x <;> rfl
theorem et_tru {r : RE} (h : EV X W a r) (he : ∀ whole, isTrue a X.env whole = (do let v ← whole; standAt a.pos; holding [v] (truthy v)) := by intro _; rfl) : ET X W a (rTru r) := by
  obtain ⟨T, p, l⟩ := h.ex
  refine ⟨_, pt_truth p he, fun σ σ' H S Q Q' E' rs rh h q xi => ?_⟩
  refine l σ σ' H S _ _ E' rs rh h (fun d S1 v H1 f1 rh1 dv h1 => ?_) xi
  cases d with
  | non => cases dv; exact ⟨_, rfl, q _ _ _ f1 rh1 h1⟩
  | bl => cases dv; exact ⟨_, rfl, q _ _ _ f1 rh1 h1⟩
  | int => cases dv; exact ⟨_, rfl, q _ _ _ f1 rh1 h1⟩
  | str => cases dv; exact ⟨_, ⟨big_le h1.1, rfl⟩, q _ _ _ f1 rh1 h1.2⟩
  | tup ds => cases dv with | tup s r => exact ⟨_, .inr (.inl ⟨_, s, rfl⟩), q _ _ _ f1 rh1 (by rw [← r.emp]; exact h1)⟩
  | kl ds => cases dv with | kl s r => exact ⟨_, .inl ⟨_, s.sql, rfl⟩, q _ _ _ f1 rh1 (by rw [← r.emp]; exact h1)⟩
  | ref b =>
    cases dv
    obtain ⟨xs, e, h1⟩ := h1
    obtain ⟨ys, s, r⟩ := rh1.sql e
    exact ⟨_, .inl ⟨ys, s, rfl⟩, q _ _ _ f1 rh1 (by rw [← r.emp]; exact h1)⟩
  | ty => exact h1.elim
  | cl => exact h1.elim

/-! ### and, or, not -/
variable {rest : List Expr} {ta tb : RT}
def rAnd (t u : RT) : RT := fun σ S Q E => t σ S (fun c S1 => if c = true then u σ S1 Q E else Q false S1) E
def rOr (t u : RT) : RT := fun σ S Q E => t σ S (fun c S1 => if c = true then Q true S1 else u σ S1 Q E) E
def rNot (t : RT) : RT := fun σ S Q E => t σ S (fun c S1 => Q (!c) S1) E
theorem ew_and1 (h : ET X W a ta) : EW X W (.BoolOp .And [a] pos) ta := let ⟨T, p, l⟩ := h.ex; ⟨T, pw_and1 p, l⟩
theorem ew_or1 (h : ET X W a ta) : EW X W (.BoolOp .Or [a] pos) ta := let ⟨T, p, l⟩ := h.ex; ⟨T, pw_or1 p, l⟩
theorem ew_and (ha : ET X W a ta) (hb : EW X W (.BoolOp .And (b :: rest) pos) tb) : EW X W (.BoolOp .And (a :: b :: rest) pos) (rAnd ta tb) := by
  obtain ⟨Ta, pa, la⟩ := ha.ex
  obtain ⟨Tb, pb, lb⟩ := hb.ex
  refine ⟨_, pw_and pa pb, fun σ σ' H S Q Q' E' rs rh h q xi => ?_⟩
  refine la σ σ' H S _ _ E' rs rh h (fun d S1 H1 f1 rh1 h1 => ?_) xi
  cases d with
  | true => exact lb σ σ' H1 S1 _ _ E' (rs.mono (f1.tle rh)) rh1 h1 (q.go f1) (xi.go f1)
  | false => exact q _ _ _ f1 rh1 h1
theorem ew_or (ha : ET X W a ta) (hb : EW X W (.BoolOp .Or (b :: rest) pos) tb) : EW X W (.BoolOp .Or (a :: b :: rest) pos) (rOr ta tb) := by
  obtain ⟨Ta, pa, la⟩ := ha.ex
  obtain ⟨Tb, pb, lb⟩ := hb.ex
  refine ⟨_, pw_or pa pb, fun σ σ' H S Q Q' E' rs rh h q xi => ?_⟩
  refine la σ σ' H S _ _ E' rs rh h (fun d S1 H1 f1 rh1 h1 => ?_) xi
  cases d with
  | false => exact lb σ σ' H1 S1 _ _ E' (rs.mono (f1.tle rh)) rh1 h1 (q.go f1) (xi.go f1)
  | true => exact q _ _ _ f1 rh1 h1
theorem et_ew (h : EW X W a ta) : ET X W a ta := let ⟨T, p, l⟩ := h.ex; ⟨T, p.pt, l⟩
theorem et_not (ha : ET X W a ta) : ET X W (.UnaryOp .Not a pos) (rNot ta) := by
  obtain ⟨Ta, pa, la⟩ := ha.ex
  exact ⟨_, pt_not pa, fun σ σ' H S Q Q' E' rs rh h q xi => la σ σ' H S _ _ E' rs rh h (fun d S1 H1 f1 rh1 h1 => q _ _ _ f1 rh1 h1) xi⟩
/-- .. as values -/
def rAndV (t u : RE) : RE := fun σ S Q E => t σ S (fun x S1 => asB x fun c => if c = true then u σ S1 Q E else Q (.bl false) S1) E
def rOrV (t u : RE) : RE := fun σ S Q E => t σ S (fun x S1 => asB x fun c => if c = true then Q (.bl true) S1 else u σ S1 Q E) E
def rNotV (t : RE) : RE := fun σ S Q E => t σ S (fun x S1 => asB x fun c => Q (.bl (!c)) S1) E
theorem ev_one {op} (h : EV X W a ra) : EV X W (.BoolOp op [a] pos) ra := let ⟨T, p, l⟩ := h.ex; ⟨T, pe_one p, l⟩
theorem ev_and (ha : EV X W a ra) (hb : EV X W (.BoolOp .And (b :: rest) pos) rb) : EV X W (.BoolOp .And (a :: b :: rest) pos) (rAndV ra rb) := by
  obtain ⟨Ta, pa, la⟩ := ha.ex
  obtain ⟨Tb, pb, lb⟩ := hb.ex
  refine ⟨_, pe_and pa pb, fun σ σ' H S Q Q' E' rs rh h q xi => ?_⟩
  refine la σ σ' H S _ _ E' rs rh h (fun d S1 v H1 f1 rh1 dv h1 => ?_) xi
  cases d <;> try exact h1.elim
  rename_i k
  cases dv
  refine ⟨k, rfl, ?_⟩
  cases k with
  | true => exact lb σ σ' H1 S1 _ _ E' (rs.mono (f1.tle rh)) rh1 h1 (q.go f1) (xi.go f1)
  | false => exact q _ _ _ _ f1 rh1 (.bl false) h1
theorem ev_or (ha : EV X W a ra) (hb : EV X W (.BoolOp .Or (b :: rest) pos) rb) : EV X W (.BoolOp .Or (a :: b :: rest) pos) (rOrV ra rb) := by
  obtain ⟨Ta, pa, la⟩ := ha.ex
  obtain ⟨Tb, pb, lb⟩ := hb.ex
  refine ⟨_, pe_or pa pb, fun σ σ' H S Q Q' E' rs rh h q xi => ?_⟩
  refine la σ σ' H S _ _ E' rs rh h (fun d S1 v H1 f1 rh1 dv h1 => ?_) xi
  cases d <;> try exact h1.elim
  rename_i k
  cases dv
  refine ⟨k, rfl, ?_⟩
  cases k with
  | false => exact lb σ σ' H1 S1 _ _ E' (rs.mono (f1.tle rh)) rh1 h1 (q.go f1) (xi.go f1)
  | true => exact q _ _ _ _ f1 rh1 (.bl true) h1
theorem ev_not (ha : EV X W a ra) : EV X W (.UnaryOp .Not a pos) (rNotV ra) := by
  obtain ⟨Ta, pa, la⟩ := ha.ex
  refine ⟨_, L2.pe_not pa, fun σ σ' H S Q Q' E' rs rh h q xi => ?_⟩
  refine la σ σ' H S _ _ E' rs rh h (fun d S1 v H1 f1 rh1 dv h1 => ?_) xi
  cases d <;> try exact h1.elim
  cases dv
  exact ⟨_, rfl, q _ _ _ _ f1 rh1 (.bl _) h1⟩
def rIf (t : RT) (ra rb : RE) : RE := fun σ S Q E => t σ S (fun c S1 => if c = true then ra σ S1 Q E else rb σ S1 Q E) E
theorem ev_if (hc : ET X W c ta) (ha : EV X W a ra) (hb : EV X W b rb) : EV X W (.IfExp c a b pos) (rIf ta ra rb) := by
  obtain ⟨Tc, pc, lc⟩ := hc.ex
  obtain ⟨Ta, pa, la⟩ := ha.ex
  obtain ⟨Tb, pb, lb⟩ := hb.ex
  refine ⟨_, pe_ifExp pc pa pb, fun σ σ' H S Q Q' E' rs rh h q xi => ?_⟩
  refine lc σ σ' H S _ _ E' rs rh h (fun d S1 H1 f1 rh1 h1 => ?_) xi
  cases d with
  | true => exact la σ σ' H1 S1 _ _ E' (rs.mono (f1.tle rh)) rh1 h1 (q.go f1) (xi.go f1)
  | false => exact lb σ σ' H1 S1 _ _ E' (rs.mono (f1.tle rh)) rh1 h1 (q.go f1) (xi.go f1)

/-! ### rows of arguments, displays -/
variable {es : List Expr} {rs' : RA}
def rNil : RA := fun _ S Q _ => Q [] S
def rCons (ra : RE) (rr : RA) : RA := fun σ S Q E => ra σ S (fun x S1 => rr σ S1 (fun xs S2 => Q (x :: xs) S2) E) E
theorem ea_nil : EA X W [] rNil := ⟨_, pa_nil, fun σ σ' H S Q Q' E' rs rh h q xi => q _ _ _ _ Fr.refl rh .nil h⟩
theorem ea_cons (ha : EV X W a ra) (hr : EA X W es rs') (hs : starEach (a :: es) X.env = (false, eval a X.env) :: starEach es X.env := by rfl) : EA X W (a :: es) (rCons ra rs') := by
  obtain ⟨Ta, pa, la⟩ := ha.ex
  obtain ⟨Tr, pr, lr⟩ := hr.ex
  refine ⟨_, pa_cons pa pr hs, fun σ σ' H S Q Q' E' rs rh h q xi => ?_⟩
  refine la σ σ' H S _ _ E' rs rh h (fun d S1 v H1 f1 rh1 dv h1 => ?_) xi
  refine lr σ σ' H1 S1 _ _ E' (rs.mono (f1.tle rh)) rh1 h1 (fun e S2 u H2 f2 rh2 du h2 => ?_) (xi.go f1)
  exact q _ _ _ _ (f1.trans f2) rh2 (.cons (DV.mono (f2.tle rh1) _ _ dv) du) h2
def rTup (r : RA) : RE := fun σ S Q E => r σ S (fun xs S1 => xs.length ≤ 1000000 ∧ Q (.tup xs) S1) E
def rLst (r : RA) : RE := fun σ S Q E => r σ S (fun xs S1 => xs.length ≤ 1000000 ∧ ∀ p, S1 p = none → Q (.ref p) (up S1 p (.lst xs))) E
theorem ev_tup {k} (h : EA X W es rs') : EV X W (.Tuple es k pos) (rTup rs') := by
  obtain ⟨T, p, l⟩ := h.ex
  refine ⟨_, pe_tup p, fun σ σ' H S Q Q' E' rs rh h q xi => ?_⟩
  refine l σ σ' H S _ _ E' rs rh h (fun d S1 v H1 f1 rh1 dv h1 => ⟨by rw [← dv.length]; exact big_le h1.1, fun p hp => ?_⟩) xi
  exact (q.go f1).newT rh1 hp dv h1.2
theorem ev_lst (h : EA X W es rs') : EV X W (.List es pos) (rLst rs') := by
  obtain ⟨T, p, l⟩ := h.ex
  refine ⟨_, pe_lst p, fun σ σ' H S Q Q' E' rs rh h q xi => ?_⟩
  refine l σ σ' H S _ _ E' rs rh h (fun d S1 v H1 f1 rh1 dv h1 => ⟨by rw [← dv.length]; exact big_le h1.1, fun p hp => ?_⟩) xi
  exact (q.go f1).newL rh1 hp dv (h1.2 p (rh1.fresh hp))
end
end Y
namespace Y
open PySem PySem.Spec PyProof.Rows L2

/-! ### operators, by what their sides are -/
def addD : R2q := fun x y S Q => match x, y with
  | .int i, .int j => Q (.int (i + j)) S
  | .str a, .str b => a.length + b.length ≤ 1000000 ∧ Q (.str (a ++ b)) S
  | .tup xs, .tup ys => xs.length + ys.length ≤ 1000000 ∧ Q (.tup (xs ++ ys)) S
  | .ref a, .ref b => ∃ xs ys, S a = some (.lst xs) ∧ S b = some (.lst ys) ∧ xs.length + ys.length ≤ 1000000 ∧ ∀ p, S p = none → Q (.ref p) (up S p (.lst (xs ++ ys)))
  | _, _ => False
def intD (C : Int → Int → Prop) (g : Int → Int → D) : R2q := fun x y S Q => match x, y with
  | .int i, .int j => C i j ∧ Q (g i j) S
  | _, _ => False
def CDiv' (_ j : Int) : Prop := 0 < j ∧ j < 2 ^ 64
def CMul' (i j : Int) : Prop := (-(2 ^ 64) < i ∧ i < 2 ^ 64) ∨ (-(2 ^ 64) < j ∧ j < 2 ^ 64)
def CPow' (i j : Int) : Prop := 0 ≤ j ∧ j ≤ 1000000 ∧ -(2 ^ 32) < i ∧ i < 2 ^ 32
def subD : R2q := fun x y S Q => match x, y with | .int i, .int j => Q (.int (i - j)) S | _, _ => False
def mulD : R2q := intD CMul' fun i j => .int (i * j)
def fdivD : R2q := intD CDiv' fun i j => .int (i / j)
def modD : R2q := intD (fun _ j => 0 < j) fun i j => .int (i % j)
def powD : R2q := intD CPow' fun i j => .int (i ^ j.toNat)
def andD : R2q := intD (fun _ _ => True) fun i j => .int (Builtin.bitAnd i j)
theorem CDiv'.ok {i j : Int} (h : CDiv' i j) : CDivW i j := wide_div (b := 64) h.1 (by have := h.1; have := h.2; omega) (by decide) (by decide)
theorem CPow'.ok {i j : Int} (h : CPow' i j) : CPow i j := ⟨h.1, h.2.1, by have := h.2.2.1; have := h.2.2.2; omega⟩
section
variable {X : Cx} {K : PySem.W.Frag}
theorem op_addU : OpR X (binaryOp .Add) (fun x y H Q => (rI0 (fun i j => .int (i + j)) x y H Q) ∨ (∃ i j, x = .str i ∧ y = .str j ∧ i.length + j.length ≤ sizeLine ∧ Q (.str (i ++ j)) H) ∨ rCatA X.K x y H Q ∨ rCat x y H Q) :=
  opr_or op_add (opr_or op_add_str (opr_or op_catA op_cat))
theorem lf_add : Lift2 X.K addD (fun x y H Q => (rI0 (fun i j => .int (i + j)) x y H Q) ∨ (∃ i j, x = .str i ∧ y = .str j ∧ i.length + j.length ≤ sizeLine ∧ Q (.str (i ++ j)) H) ∨ rCatA X.K x y H Q ∨ rCat x y H Q) := by
  intro x y S H Q' Q v u rh dx dy h q
  cases x <;> cases y <;> try exact h.elim
  · cases dx; cases dy; exact .inl ⟨_, _, rfl, rfl, q.here rh (.int _) h⟩
  · cases dx; cases dy; exact .inr (.inl ⟨_, _, rfl, rfl, big_le h.1, q.here rh (.str _) h.2⟩)
  · rename_i xs ys
    cases dx with | tup s1 r1 =>
    cases dy with | tup s2 r2 =>
    refine .inr (.inr (.inl ⟨_, _, _, _, rfl, rfl, s1, s2, by rw [← r1.length, ← r2.length]; exact big_le h.1, fun e => ?_, fun n e => ?_, fun n m p hp => ?_⟩))
    · subst e; cases r1; exact q.here rh (.tup s2 r2) h.2
    · subst e; cases r2; exact q.here rh (.tup s1 r1) (by have := h.2; rw [List.append_nil] at this; exact this)
    · exact q.newT rh hp (r1.app r2) h.2
  · cases dx; cases dy
    obtain ⟨xs, ys, e1, e2, hz, h⟩ := h
    obtain ⟨vs, g1, r1⟩ := rh.lst e1
    obtain ⟨us, g2, r2⟩ := rh.lst e2
    exact .inr (.inr (.inr ⟨_, _, _, _, rfl, rfl, g1, g2, by rw [← r1.length, ← r2.length]; exact big_le hz, fun p hp => q.newL rh hp (r1.app r2) (h p (rh.fresh hp))⟩))
theorem lf_int {C C' : Int → Int → Prop} {g : Int → Int → D} {g' : Int → Int → V} (hc : ∀ i j, C i j → C' i j) (hg : ∀ H i j, DV K H (g i j) (g' i j)) : Lift2 K (intD C g) (rI C' g') := by
  intro x y S H Q' Q v u rh dx dy h q
  cases x <;> cases y <;> try exact h.elim
  cases dx; cases dy
  exact ⟨_, _, rfl, rfl, hc _ _ h.1, q.here rh (hg _ _ _) h.2⟩
theorem lf_int0 {f : R2q} {g : Int → Int → D} {g' : Int → Int → V} (hf : ∀ x y S Q, f x y S Q → ∃ i j, x = .int i ∧ y = .int j ∧ Q (g i j) S) (hg : ∀ H i j, DV K H (g i j) (g' i j)) : Lift2 K f (rI0 g') := by
  intro x y S H Q' Q v u rh dx dy h q
  obtain ⟨i, j, rfl, rfl, h'⟩ := hf x y S Q' h
  clear h
  cases dx; cases dy
  exact ⟨_, _, rfl, rfl, q.here rh (hg _ _ _) h'⟩
theorem lf_sub : Lift2 K subD (rI0 fun i j => .int (i - j)) := lf_int0 (g := fun i j => .int (i - j)) (fun x y S Q h => by cases x <;> cases y <;> first | exact h.elim | exact ⟨_, _, rfl, rfl, h⟩) fun _ _ _ => .int _
theorem lf_mul : Lift2 K mulD (rI CMul fun i j => .int (i * j)) := lf_int (fun _ _ h => h) fun _ _ _ => .int _
theorem lf_fdiv : Lift2 K fdivD (rI CDivW fun i j => .int (i / j)) := lf_int (fun _ _ h => h.ok) fun _ _ _ => .int _
theorem lf_mod : Lift2 K modD (rI (fun _ j => 0 < j) fun i j => .int (i % j)) := lf_int (fun _ _ h => h) fun _ _ _ => .int _
theorem lf_pow : Lift2 K powD (rI CPow fun i j => .int (i ^ j.toNat)) := lf_int (fun _ _ h => h.ok) fun _ _ _ => .int _
theorem lf_and : Lift2 K andD (rI0 fun i j => .int (Builtin.bitAnd i j)) := lf_int0 (g := fun i j => .int (Builtin.bitAnd i j)) (fun x y S Q h => by cases x <;> cases y <;> first | exact h.elim | exact ⟨_, _, rfl, rfl, h.2⟩) fun _ _ _ => .int _
end
/-! ### comparisons -/
def leD : R2q := fun x y S Q => match x, y with | .int i, .int j => Q (.bl (decide (i ≤ j))) S | _, _ => False
def geD : R2q := fun x y S Q => match x, y with | .int i, .int j => Q (.bl (decide (j ≤ i))) S | _, _ => False
def gtD : R2q := fun x y S Q => match x, y with | .int i, .int j => Q (.bl (decide (j < i))) S | _, _ => False
def ltD : R2q := fun x y S Q => match x, y with
  | .int i, .int j => Q (.bl (decide (i < j))) S
  | .tup xs, .tup ys => ∃ ns ms, xs = ns.map D.int ∧ ys = ms.map D.int ∧ Q (.bl (HT.lexLt ns ms)) S
  | _, _ => False
def isN : D → Bool | .non => true | _ => false
def isD : R2q := fun x y S Q => match y with
  | .non => Q (.bl (isN x)) S
  | .bl b => match x with
    | .bl a => Q (.bl (decide (a = b))) S
    | .ty _ => False
    | _ => Q (.bl false) S
  | _ => False
def isntD : R2q := fun x y S Q => isD x y S (fun z S1 => asB z fun b => Q (.bl (!b)) S1)
mutual
def pd : D → PyData
  | .non => .none | .bl b => .bool b | .int i => .int i | .str s => .str s | .tup xs => .tuple (pds xs) | .ref _ => .none | .ty _ => .none | .kl _ => .none | .cl _ => .none
def pds : List D → List PyData
  | [] => []
  | d :: ds => pd d :: pds ds
end
mutual
def pur : D → Bool
  | .tup xs => purs xs | .ref _ => false | .ty _ => false | .kl _ => false | .cl _ => false | _ => true
def purs : List D → Bool
  | [] => true
  | d :: ds => pur d && purs ds
end
def okE (d : D) : Prop := pur d = true ∧ SeqAt.shaped (pd d) = true
/-- == of what is no tuple and no list, at once -/
def eqS : D → D → Option Bool
  | .non, .non => some true | .non, .int _ => some false | .int _, .non => some false | .non, .bl _ => some false | .bl _, .non => some false | .non, .str _ => some false | .str _, .non => some false
  | .int i, .int j => some (decide (i = j)) | .bl i, .bl j => some (decide (i = j)) | .str i, .str j => some (decide (i = j))
  | .int _, .str _ => some false | .str _, .int _ => some false | .bl _, .str _ => some false | .str _, .bl _ => some false
  | _, _ => none
def eqD (g : Bool → Bool) : R2q := fun x y S Q => match eqS x y with
  | some b => Q (.bl (g b)) S
  | none => match x, y with
    | .ref a, .ref b => ∃ xs ys, LsR S a xs ∧ LsR S b ys ∧ okE (.tup xs) ∧ okE (.tup ys) ∧ Q (.bl (g (PyData.eqvAll (pds xs) (pds ys)))) S
    | _, _ => okE x ∧ okE y ∧ Q (.bl (g (PyData.eqv (pd x) (pd y)))) S
section
variable {X : Cx} {K : PySem.W.Frag} {H : Hp}
mutual
theorem DV.dp : ∀ (d : D) (v : V), pur d = true → DV K H d v → Dp K H v (pd d)
  | .non, _, _, h => by cases h; exact .non
  | .bl _, _, _, h => by cases h; exact .bl _
  | .int _, _, _, h => by cases h; exact .int _
  | .str _, _, _, h => by cases h; exact .str _
  | .ref _, _, p, _ => by simp [pur] at p
  | .ty _, _, p, _ => by simp [pur] at p
  | .kl _, _, p, _ => by simp [pur] at p
  | .cl _, _, p, _ => by simp [pur] at p
  | .tup ds, _, p, h => by cases h with | tup s r => exact .tup s (DVs.dp ds _ (by simpa [pur] using p) r)
theorem DVs.dp : ∀ (ds : List D) (vs : List V), purs ds = true → DVs K H ds vs → DpAll K H vs (pds ds)
  | [], _, _, h => by cases h; exact .nil
  | d :: ds, _, p, h => by
    cases h with | cons x r =>
    rw [purs, Bool.and_eq_true] at p
    exact .cons (DV.dp d _ p.1 x) (DVs.dp ds _ p.2 r)
end
def rEqU (K : PySem.W.Frag) : R2 := fun x y H Q => rEq x y H Q ∨ rEqD K x y H Q
def rNeU (K : PySem.W.Frag) : R2 := fun x y H Q => rNe x y H Q ∨ rNeD K x y H Q
theorem op_eqU (hu : X.A.units + 64 < cLine) : OpR X (compareOp .Eq) (rEqU X.K) := opr_or op_eq (op_eqD hu)
theorem op_neU (hu : X.A.units + 64 < cLine) : OpR X (compareOp .NotEq) (rNeU X.K) := opr_or op_ne (op_neD hu)
theorem eqS_of {x y : D} {v u : V} {b : Bool} (e : eqS x y = some b) (dx : DV K H x v) (dy : DV K H y u) : scal v u = true ∧ decide (v = u) = b := by
  cases x <;> cases y <;> simp [eqS] at e <;> cases dx <;> cases dy <;> subst e <;> refine ⟨rfl, ?_⟩ <;> simp
theorem shaped_list {ds : List PyData} : SeqAt.shaped (.list ds) = SeqAt.shaped (.tuple ds) := by
  unfold SeqAt.shaped
  have e1 : PyData.canLay0 (.list ds) = PyData.canLay0 (.tuple ds) := by simp [PyData.canLay0]
  have e2 : PyData.depth (.list ds) = PyData.depth (.tuple ds) := by simp [PyData.depth]
  rw [e1, e2]
theorem lf_eq : Lift2 K (eqD id) (rEqU K) := by
  intro x y S H Q' Q v u rh dx dy h q
  unfold eqD at h
  split at h
  · rename_i b e
    obtain ⟨s, d⟩ := eqS_of e dx dy
    exact .inl ⟨s, by rw [d]; exact q.here rh (.bl _) h⟩
  · split at h
    · cases dx; cases dy
      obtain ⟨xs, ys, e1, e2, ⟨p1, s1⟩, ⟨p2, s2⟩, h⟩ := h
      obtain ⟨vs, g1, r1⟩ := rh.sql e1
      obtain ⟨us, g2, r2⟩ := rh.sql e2
      refine .inr ⟨.list (pds xs), .list (pds ys), .lst g1 (DVs.dp _ _ (by simpa [pur] using p1) r1), .lst g2 (DVs.dp _ _ (by simpa [pur] using p2) r2), ?_, ?_, ?_⟩
      · rw [shaped_list]; simpa [pd] using s1
      · rw [shaped_list]; simpa [pd] using s2
      · exact q.here rh (.bl _) (by simpa [PyData.eqv] using h)
    · obtain ⟨⟨p1, s1⟩, ⟨p2, s2⟩, h⟩ := h
      exact .inr ⟨_, _, DV.dp _ _ p1 dx, DV.dp _ _ p2 dy, s1, s2, q.here rh (.bl _) h⟩
theorem lf_ne : Lift2 K (eqD not) (rNeU K) := by
  intro x y S H Q' Q v u rh dx dy h q
  unfold eqD at h
  split at h
  · rename_i b e
    obtain ⟨s, d⟩ := eqS_of e dx dy
    exact .inl ⟨s, by rw [d]; exact q.here rh (.bl _) h⟩
  · split at h
    · cases dx; cases dy
      obtain ⟨xs, ys, e1, e2, ⟨p1, s1⟩, ⟨p2, s2⟩, h⟩ := h
      obtain ⟨vs, g1, r1⟩ := rh.sql e1
      obtain ⟨us, g2, r2⟩ := rh.sql e2
      refine .inr ⟨.list (pds xs), .list (pds ys), .lst g1 (DVs.dp _ _ (by simpa [pur] using p1) r1), .lst g2 (DVs.dp _ _ (by simpa [pur] using p2) r2), ?_, ?_, ?_⟩
      · rw [shaped_list]; simpa [pd] using s1
      · rw [shaped_list]; simpa [pd] using s2
      · exact q.here rh (.bl _) (by simpa [PyData.eqv] using h)
    · obtain ⟨⟨p1, s1⟩, ⟨p2, s2⟩, h⟩ := h
      exact .inr ⟨_, _, DV.dp _ _ p1 dx, DV.dp _ _ p2 dy, s1, s2, q.here rh (.bl _) h⟩
theorem lf_le : Lift2 K leD (rI0 fun i j => .bl (decide (i ≤ j))) := lf_int0 (g := fun i j => .bl (decide (i ≤ j))) (fun x y S Q h => by cases x <;> cases y <;> first | exact h.elim | exact ⟨_, _, rfl, rfl, h⟩) fun _ _ _ => .bl _
theorem lf_ge : Lift2 K geD (rI0 fun i j => .bl (decide (j ≤ i))) := lf_int0 (g := fun i j => .bl (decide (j ≤ i))) (fun x y S Q h => by cases x <;> cases y <;> first | exact h.elim | exact ⟨_, _, rfl, rfl, h⟩) fun _ _ _ => .bl _
theorem lf_gt : Lift2 K gtD (rI0 fun i j => .bl (decide (j < i))) := lf_int0 (g := fun i j => .bl (decide (j < i))) (fun x y S Q h => by cases x <;> cases y <;> first | exact h.elim | exact ⟨_, _, rfl, rfl, h⟩) fun _ _ _ => .bl _
theorem DVs.ints : ∀ {ns : List Int} {vs : List V}, DVs K H (ns.map D.int) vs → vs = ns.map V.int
  | [], _, .nil => rfl
  | _ :: _, _, .cons x r => by cases x; rw [DVs.ints r]; rfl
theorem DVs.ofInts : ∀ {ns : List Int}, DVs K H (ns.map D.int) (ns.map V.int)
  | [] => .nil
  | _ :: _ => .cons (.int _) DVs.ofInts
def rLtU (K : PySem.W.Frag) : R2 := fun x y H Q => rI0 (fun i j => .bl (decide (i < j))) x y H Q ∨ rLtT K x y H Q
theorem op_ltU (hu : X.A.units < cLine) : OpR X (compareOp .Lt) (rLtU X.K) := opr_or op_lt (op_ltT hu)
theorem lf_lt : Lift2 K ltD (rLtU K) := by
  intro x y S H Q' Q v u rh dx dy h q
  cases x <;> cases y <;> try exact h.elim
  · cases dx; cases dy; exact .inl ⟨_, _, rfl, rfl, q.here rh (.bl _) h⟩
  · obtain ⟨ns, ms, rfl, rfl, h⟩ := h
    cases dx with | tup s1 r1 =>
    cases dy with | tup s2 r2 =>
    rw [r1.ints] at s1
    rw [r2.ints] at s2
    exact .inr ⟨_, _, ns, ms, rfl, rfl, s1, s2, q.here rh (.bl _) h⟩
/-- is None, is True, is False -/
def rIsU : R2 := fun x y H Q => (y = .non ∧ Q (.bl (decide (x = .non))) H) ∨ ∃ b, y = .bl b ∧ (∀ n, x ≠ .ty n) ∧ Q (.bl (decide (x = .bl b))) H
def rIsntU : R2 := fun x y H Q => (y = .non ∧ Q (.bl (!decide (x = .non))) H) ∨ ∃ b, y = .bl b ∧ (∀ n, x ≠ .ty n) ∧ Q (.bl (!decide (x = .bl b))) H
theorem is_bl_any {x : V} {v : Value} {b : Bool} (r : RelV x v) (n : ∀ n, x ≠ .ty n) : plainIs v (.bool b) = true ∧ (v == Value.bool b) = decide (x = .bl b) := by
  cases x with
  | non => cases r; exact ⟨rfl, rfl⟩
  | bl a => cases r; refine ⟨rfl, ?_⟩; cases a <;> cases b <;> rfl
  | int _ => obtain ⟨t, rfl⟩ := r; exact ⟨rfl, rfl⟩
  | str _ => obtain ⟨t, rfl⟩ := r; exact ⟨rfl, rfl⟩
  | byt _ => obtain ⟨t, rfl⟩ := r; exact ⟨rfl, rfl⟩
  | flt _ => obtain ⟨t, rfl⟩ := r; exact ⟨rfl, rfl⟩
  | ref _ => cases r; exact ⟨rfl, rfl⟩
  | ty m => exact absurd rfl (n m)
theorem op_isU : OpR X (compareOp .Is) rIsU := by
  intro pins s σ H x y v u Q I rx ry h
  rcases h with h | ⟨b, rfl, n, h⟩
  · exact op_isN pins s σ H x y v u Q I rx ry h
  · cases ry
    obtain ⟨p, e⟩ := is_bl_any (b := b) rx n
    exact wpAny_is_plain p (fin_bl I h e.symm)
theorem op_isntU : OpR X (compareOp .IsNot) rIsntU := by
  intro pins s σ H x y v u Q I rx ry h
  rcases h with h | ⟨b, rfl, n, h⟩
  · exact op_notN pins s σ H x y v u Q I rx ry h
  · cases ry
    obtain ⟨p, e⟩ := is_bl_any (b := b) rx n
    exact wpAny_isNot_plain p (fin_bl I h (by rw [e]))
theorem isN_of {d : D} {v : V} (h : DV K H d v) : decide (v = .non) = isN d := by cases h <;> rfl
theorem lf_is : Lift2 K isD rIsU := by
  intro x y S H Q' Q v u rh dx dy h q
  cases y with
  | non => cases dy; exact .inl ⟨rfl, by rw [isN_of dx]; exact q.here rh (.bl _) h⟩
  | bl b =>
    cases dy
    refine .inr ⟨b, rfl, fun n e => ?_, ?_⟩
    · subst e; cases dx; exact h.elim
    · have e : ∀ a : Bool, decide (V.bl a = V.bl b) = decide (a = b) := fun a => by simp
      cases dx <;> first | exact h.elim | exact q.here rh (.bl _) h | (rw [e]; exact q.here rh (.bl _) h)
  | _ => exact h.elim
theorem lf_isnt : Lift2 K isntD rIsntU := by
  intro x y S H Q' Q v u rh dx dy h q
  cases y with
  | non => cases dy; exact .inl ⟨rfl, by rw [isN_of dx]; exact q.here rh (.bl _) h⟩
  | bl b =>
    cases dy
    refine .inr ⟨b, rfl, fun n e => ?_, ?_⟩
    · subst e; cases dx; exact h.elim
    · have e : ∀ a : Bool, decide (V.bl a = V.bl b) = decide (a = b) := fun a => by simp
      cases dx <;> first | exact h.elim | exact q.here rh (.bl _) h | (rw [e]; exact q.here rh (.bl _) h)
  | _ => exact h.elim
end
/-! ### items, slices -/
def ixD : R2q := fun x y S Q => match x, y with
  | .tup xs, .int i => ∃ d, atI xs i = some d ∧ Q d S
  | .kl xs, .int i => ∃ d, atI xs i = some d ∧ Q d S
  | .ref a, .int i => ∃ xs d, LsR S a xs ∧ atI xs i = some d ∧ Q d S
  | .str z, .int i => ∃ c, z.length ≤ 1000000 ∧ atI z.cps.toList i = some c ∧ Q (.str ⟨#[c]⟩) S
  | _, _ => False
def cutL {α : Type} (xs : List α) (lo hi : Option Int) : List α := (xs.drop (HT.sIx xs.length 0 lo)).take (HT.sIx xs.length xs.length hi - HT.sIx xs.length 0 lo)
def slD (x : D) (lo hi : Option Int) (S : Hq) (Q : Qv) : Prop := match x with
  | .tup xs => Q (.tup (cutL xs lo hi)) S
  | .ref a => ∃ xs, LsR S a xs ∧ ∀ p, S p = none → Q (.ref p) (up S p (.lst (cutL xs lo hi)))
  | .str z => z.length ≤ 1000000 ∧ Q (.str (cutS z lo hi)) S
  | _ => False
section
variable {X : Cx} {K : PySem.W.Frag} {H : Hp} {W : WX} {a b : Expr} {ra rb : RE} {pos p2 : Pos}
theorem DVs.atI {ds : List D} {vs : List V} {i : Int} {d : D} (r : DVs K H ds vs) (e : atI ds i = some d) : ∃ v, atI vs i = some v ∧ DV K H d v := by
  unfold L2.atI at e ⊢
  rw [← r.length]
  cases h : ixN ds.length i with
  | none => rw [h] at e; cases e
  | some j =>
    rw [h] at e
    exact r.get (i := j) e
theorem lf_ix : Lift2 K ixD (rIx K) := by
  intro x y S H Q' Q v u rh dx dy h q
  cases y <;> cases x <;> try exact h.elim
  · cases dx; cases dy; obtain ⟨c, h1, h2, h⟩ := h; exact .inr (.inr ⟨_, _, c, rfl, rfl, big_le h1, h2, q.here rh (.str _) h⟩)
  · cases dy
    cases dx with | tup s r =>
    obtain ⟨d, e, h⟩ := h
    obtain ⟨w, e', dw⟩ := r.atI e
    exact .inr (.inl ⟨_, _, _, w, rfl, rfl, s, e', q.here rh dw h⟩)
  · cases dx; cases dy
    obtain ⟨xs, d, l, e, h⟩ := h
    obtain ⟨ys, s, r⟩ := rh.sql l
    obtain ⟨w, e', dw⟩ := r.atI e
    exact .inl ⟨_, _, _, w, rfl, rfl, s, e', q.here rh dw h⟩
  · cases dy
    cases dx with | kl s r =>
    obtain ⟨d, e, h⟩ := h
    obtain ⟨w, e', dw⟩ := r.atI e
    exact .inl ⟨_, _, _, w, rfl, rfl, s.sql, e', q.here rh dw h⟩
theorem ev_ix (ha : EV X W a ra) (hb : EV X W b rb) (hs : PlainIx b := by exact fun _ _ => rfl) : EV X W (.Subscript a b pos) (rBin ixD ra rb) := by
  obtain ⟨Ta, pa, la⟩ := ha.ex
  obtain ⟨Tb, pb, lb⟩ := hb.ex
  refine ⟨_, pe_ix ix_seq pa pb hs, fun σ σ' H S Q Q' E' rs rh h q xi => ?_⟩
  refine la σ σ' H S _ _ E' rs rh h (fun d S1 v H1 f1 rh1 dv h1 => ?_) xi
  refine lb σ σ' H1 S1 _ _ E' (rs.mono (f1.tle rh)) rh1 h1 (fun e S2 u H2 f2 rh2 du h2 => ?_) (xi.go f1)
  exact lf_ix _ _ _ _ _ _ _ _ rh2 (DV.mono (f2.tle rh1) _ _ dv) du h2 (q.go (f1.trans f2))
/-- a part of a slice -/
abbrev RO' := Sg → Hq → (Option Int → Hq → Prop) → Xw → Prop
structure EO (X : Cx) (W : WX) (e : Option Expr) (t : RO') : Prop where
  ex : ∃ T, PO X e T ∧ ∀ (σ : L2.St) (σ' : Sg) (H : Hp) (S : Hq) (Q : Option Int → Hp → Prop) (Q' : Option Int → Hq → Prop) (E' : Xw), RS X.K H σ' σ → RH X.K S H → t σ' S Q' E' → (∀ o S' H', Fr S H S' H' → RH X.K S' H' → Q' o S' → Q o H') → XI X.K S H E' (wx W σ) → T σ H Q
def rNoP : RO' := fun _ S Q _ => Q none S
def rPrt (r : RE) : RO' := fun σ S Q E => r σ S (fun x S1 => asI x fun i => Q (some i) S1) E
theorem eo_none : EO X W none rNoP := ⟨_, po_none, fun σ σ' H S Q Q' E' rs rh h q xi => q _ _ _ Fr.refl rh h⟩
theorem eo_some (h : EV X W a ra) : EO X W (some a) (rPrt ra) := by
  obtain ⟨T, p, l⟩ := h.ex
  refine ⟨_, po_some p, fun σ σ' H S Q Q' E' rs rh h q xi => ?_⟩
  refine l σ σ' H S _ _ E' rs rh h (fun d S1 v H1 f1 rh1 dv h1 => ?_) xi
  cases d <;> try exact h1.elim
  cases dv
  exact ⟨_, rfl, q _ _ _ f1 rh1 h1⟩
def rSl (ra : RE) (rl ru : RO') : RE := fun σ S Q E => ra σ S (fun x S1 => rl σ S1 (fun l S2 => ru σ S2 (fun u S3 => slD x l u S3 Q) E) E) E
theorem cut_len {ds : List D} {vs : List V} (r : DVs K H ds vs) (lo hi : Option Int) : DVs K H (cutL ds lo hi) (cutV vs lo hi) := by
  unfold cutL cutV
  rw [← r.length]
  exact (r.drop _).take _
def rSlU (K : PySem.W.Frag) : V → Option Int → Option Int → Hp → VK → Prop := fun x lo hi H Q => rSlA K x lo hi H Q ∨ rSlL K x lo hi H Q ∨ rSlS x lo hi H Q
theorem sl_U : SlR X (rSlU X.K) := SlR.or sl_tupA (SlR.or sl_list sl_str)
theorem cutL_whole {α : Type} {xs : List α} {lo hi : Option Int} (h : HT.sIx xs.length 0 lo = 0 ∧ HT.sIx xs.length xs.length hi = xs.length) : cutL xs lo hi = xs := by
  unfold cutL
  rw [h.1, h.2]
  simp
theorem ev_sl {lo hi : Option Expr} {rl ru : RO'} (ha : EV X W a ra) (hl : EO X W lo rl) (hu : EO X W hi ru) : EV X W (.Subscript a (.Slice lo hi none p2) pos) (rSl ra rl ru) := by
  obtain ⟨Ta, pa, la⟩ := ha.ex
  obtain ⟨Tl, pl, ll⟩ := hl.ex
  obtain ⟨Tu, pu, lu⟩ := hu.ex
  refine ⟨_, pe_slice sl_U pa pl pu, fun σ σ' H S Q Q' E' rs rh h q xi => ?_⟩
  refine la σ σ' H S _ _ E' rs rh h (fun d S1 v H1 f1 rh1 dv h1 => ?_) xi
  refine ll σ σ' H1 S1 _ _ E' (rs.mono (f1.tle rh)) rh1 h1 (fun o S2 H2 f2 rh2 h2 => ?_) (xi.go f1)
  refine lu σ σ' H2 S2 _ _ E' (rs.mono ((f1.trans f2).tle rh)) rh2 h2 (fun o' S3 H3 f3 rh3 h3 => ?_) (xi.go (f1.trans f2))
  have dv3 := DV.mono ((f2.trans f3).tle rh1) _ _ dv
  have q3 := q.go ((f1.trans f2).trans f3)
  cases d <;> try exact h3.elim
  · cases dv3; exact .inr (.inr ⟨_, rfl, big_le h3.1, q3.here rh3 (.str _) h3.2⟩)
  · cases dv3 with | tup s r =>
    refine .inl ⟨_, _, rfl, s, fun w => ?_, fun w p hp => q3.newT rh3 hp (cut_len r o o') h3⟩
    have e := cutL_whole (lo := o) (hi := o') (by rw [r.length]; exact w)
    have h4 : Q' (.tup (cutL _ o o')) S3 := h3
    rw [e] at h4
    exact q3.here rh3 (.tup s r) h4
  · cases dv3
    obtain ⟨xs, l, h3⟩ := h3
    obtain ⟨ys, s, r⟩ := rh3.sql l
    exact .inr (.inl ⟨_, _, rfl, s, fun p hp => q3.newL rh3 hp (cut_len r o o') (h3 p (rh3.fresh hp))⟩)
end
end Y
namespace Y
open PySem PySem.Spec PyProof.Rows L2

/-! ### the reading as one below -/
def dnE (K : PySem.W.Frag) (W : WX) (t : RE) : TE := fun σ H Q => ∃ σ' S Q' E', RS K H σ' σ ∧ RH K S H ∧ t σ' S Q' E' ∧ QI K S H Q' Q ∧ XI K S H E' (wx W σ)
def dnT (K : PySem.W.Frag) (W : WX) (t : RT) : TT := fun σ H Q => ∃ σ' S Q' E', RS K H σ' σ ∧ RH K S H ∧ t σ' S Q' E' ∧ QT K S H Q' Q ∧ XI K S H E' (wx W σ)
def dnB (K : PySem.W.Frag) (W : WX) (t : RSt) : TS := fun D σ H => ∃ σ' S D', RS K H σ' σ ∧ RH K S H ∧ t D' σ' S ∧ DI K W S H D' D
section
variable {X : Cx} {W : WX} {e : Expr}
theorem EV.pe {t : RE} (h : EV X W e t) : PE X e (dnE X.K W t) := by
  obtain ⟨T, p, l⟩ := h.ex
  exact ⟨fun pins s σ H Q I ⟨σ', S, Q', E', a, b, c, d, x⟩ => p.run pins s σ H Q I (l σ σ' H S Q Q' E' a b c d x)⟩
theorem ET.pe {t : RT} (h : ET X W e t) : PT X e (dnT X.K W t) := by
  obtain ⟨T, p, l⟩ := h.ex
  exact ⟨fun pins s σ H Q I ⟨σ', S, Q', E', a, b, c, d, x⟩ => p.run pins s σ H Q I (l σ σ' H S Q Q' E' a b c d x)⟩
theorem EB.pe {st : List Stmt} {t : RSt} (h : EB X W st t) : PSs X st (dnB X.K W t) := by
  obtain ⟨T, p, l⟩ := h.ex
  exact ⟨fun pins s σ H D I ⟨σ', S, D', a, b, c, d⟩ => p.run pins s σ H D I (l σ σ' H S D D' a b c d)⟩
end

/-! ### calls -/
abbrev Sq := List D → Hq → Qv → Xw → Prop
def NoX : Xw := fun _ _ _ => False
theorem XI.no {K : PySem.W.Frag} {S : Hq} {H : Hp} {E : XK} : XI K S H NoX E := fun _ _ _ _ _ _ _ _ _ _ _ z => z.elim
def dn (K : PySem.W.Frag) (sp : Sq) : Sp := fun vs H Q E => ∃ ds S Q' E', DVs K H ds vs ∧ RH K S H ∧ sp ds S Q' E' ∧ QI K S H Q' Q ∧ XI K S H E' E
def LiftC (K : PySem.W.Frag) (f : List D → Hq → Qv → Prop) (r : List V → Hp → VK → Prop) : Prop := ∀ ds S H Q' Q vs, RH K S H → DVs K H ds vs → f ds S Q' → QI K S H Q' Q → r vs H Q
def rFn (f : List D → Hq → Qv → Prop) (ra : RA) : RE := fun σ S Q E => ra σ S (fun ds S1 => f ds S1 Q) E
def rCall (sp : Sq) (ra : RA) : RE := fun σ S Q E => ra σ S (fun ds S1 => sp ds S1 Q NoX) E
section
variable {X : Cx} {W : WX} {x : Str} {e : Expr} {es : List Expr} {ra : RA} {p pos : Pos} {f : List D → Hq → Qv → Prop} {r : List V → Hp → VK → Prop}
theorem ev_cB {id : String} (hc : CallR X (.builtin id) r) (hl : LiftC X.K f r) (hm : X.mg x = none) (ha : EA X W (e :: es) ra) (hg : Gl X x := by rfl) (hv : bootBuiltins x = some (.builtin id) := by decide +kernel)
    (hn : x ≠ "__name__" := by decide) (hd : (x == ("__debug__" : Str)) = false := by decide) (he : starEach (e :: es) X.env = (false, eval e X.env) :: starEach es X.env := by rfl)
    (hpl : (backTo pos (starEach es X.env)).any (·.1) = false := by rfl) : EV X W (.Call (.Name x p) (e :: es) [] pos) (rFn f ra) := by
  obtain ⟨Ta, pa, la⟩ := ha.ex
  refine ⟨_, pe_callB hc hg hm hv pa hn hd he hpl, fun σ σ' H S Q Q' E' rs rh h q xi => ?_⟩
  exact la σ σ' H S _ _ E' rs rh h (fun d S1 v H1 f1 rh1 dv h1 => hl _ _ _ _ _ _ rh1 dv h1 (q.go f1)) xi
theorem ev_cT {T : String} (hc : CallR X (.type T) r) (hl : LiftC X.K f r) (hm : X.mg x = none) (ha : EA X W (e :: es) ra) (hg : Gl X x := by rfl) (hv : bootBuiltins x = some (.type T) := by decide +kernel)
    (hn : x ≠ "__name__" := by decide) (hd : (x == ("__debug__" : Str)) = false := by decide) (he : starEach (e :: es) X.env = (false, eval e X.env) :: starEach es X.env := by rfl)
    (hpl : (backTo pos (starEach es X.env)).any (·.1) = false := by rfl) : EV X W (.Call (.Name x p) (e :: es) [] pos) (rFn f ra) := by
  obtain ⟨Ta, pa, la⟩ := ha.ex
  refine ⟨_, pe_callTy hc hg hm hv pa hn hd he hpl, fun σ σ' H S Q Q' E' rs rh h q xi => ?_⟩
  exact la σ σ' H S _ _ E' rs rh h (fun d S1 v H1 f1 rh1 dv h1 => hl _ _ _ _ _ _ rh1 dv h1 (q.go f1)) xi
/-- a built-in type as a value -/
theorem ev_ty {n : String} (hm : X.mg x = none) (hg : Gl X x := by rfl) (hv : bootBuiltins x = some (.type n) := by decide +kernel) (hn : x ≠ "__name__" := by decide) (hd : (x == ("__debug__" : Str)) = false := by decide) : EV X W (.Name x pos) (rC (.ty n)) :=
  ⟨_, pe_bltn (v := .ty n) hg hm hv rfl hn hd, fun σ σ' H S Q Q' E' rs rh h q xi => q.here rh (.ty n) h⟩
variable {k : Nat} {fa : Addr} {fd : FuncData} {ps : List Str} {sp : Sq}
theorem ev_call (F : FnOk X.prog X.w X.K X.mg X.base CX0 k fa fd ps (dn X.K sp)) (hr : Room k X.A) (hm : X.mg x = some (.ref fa)) (hk : PySem.W.keepIn X.K (.ref fa) = true) (hb : Binds X.K fd ps [])
    (ha : EA X W (e :: es) ra) (hg : Gl X x := by rfl) (hdb : (x == ("__debug__" : Str)) = false := by decide) (he : starEach (e :: es) X.env = (false, eval e X.env) :: starEach es X.env := by rfl) (hpl : (backTo pos (starEach es X.env)).any (·.1) = false := by rfl) :
    EV X W (.Call (.Name x p) (e :: es) [] pos) (rCall sp ra) := by
  obtain ⟨Ta, pa, la⟩ := ha.ex
  refine ⟨_, pe_call (E := fun _ _ _ => False) F hr hg hm hk hb .nil pass0 pa hdb he hpl, fun σ σ' H S Q Q' E' rs rh h q xi => ?_⟩
  refine la σ σ' H S _ _ E' rs rh h (fun d S1 v H1 f1 rh1 dv h1 => ?_) xi
  rw [List.append_nil]
  exact ⟨d, S1, Q', NoX, dv, rh1, h1, q.go f1, XI.no⟩
theorem ev_call0 (F : FnOk X.prog X.w X.K X.mg X.base CX0 k fa fd ps (dn X.K sp)) (hr : Room k X.A) (hm : X.mg x = some (.ref fa)) (hk : PySem.W.keepIn X.K (.ref fa) = true) (hb : Binds X.K fd ps [])
    (hg : Gl X x := by rfl) (hdb : (x == ("__debug__" : Str)) = false := by decide) : EV X W (.Call (.Name x p) [] [] pos) (rCall sp rNil) := by
  refine ⟨_, pe_call0 (E := fun _ _ _ => False) F hr hg hm hk hb .nil pass0 hdb, fun σ σ' H S Q Q' E' rs rh h q xi => ?_⟩
  exact ⟨[], S, Q', NoX, .nil, rh, h, q, XI.no⟩
/-! ### arguments by name: π tells, for each parameter, its place among (positional ++ named) -/
structure EK (X : Cx) (W : WX) (kws : List Keyword) (t : RA) : Prop where
  ex : ∃ T, PK X kws T ∧ ∀ (σ : L2.St) (σ' : Sg) (H : Hp) (S : Hq) (Q : List V → Hp → Prop) (Q' : List D → Hq → Prop) (E' : Xw), RS X.K H σ' σ → RH X.K S H → t σ' S Q' E' → QA X.K S H Q' Q → XI X.K S H E' (wx W σ) → T σ H Q
theorem ek_nil : EK X W [] rNil := ⟨_, pk_nil, fun σ σ' H S Q Q' E' rs rh h q xi => q _ _ _ _ Fr.refl rh .nil h⟩
theorem ek_cons {a : Expr} {kws : List Keyword} {nm : Option Str} {kpos : Pos} {r1 : RE} {rr : RA} (ha : EV X W a r1) (hr : EK X W kws rr) : EK X W (⟨nm, a, kpos⟩ :: kws) (rCons r1 rr) := by
  obtain ⟨Ta, pa, la⟩ := ha.ex
  obtain ⟨Tr, pr, lr⟩ := hr.ex
  refine ⟨_, pk_cons pa pr, fun σ σ' H S Q Q' E' rs rh h q xi => ?_⟩
  refine la σ σ' H S _ _ E' rs rh h (fun d S1 v H1 f1 rh1 dv h1 => ?_) xi
  refine lr σ σ' H1 S1 _ _ E' (rs.mono (f1.tle rh)) rh1 h1 (fun e S2 u H2 f2 rh2 du h2 => ?_) (xi.go f1)
  exact q _ _ _ _ (f1.trans f2) rh2 (.cons (DV.mono (f2.tle rh1) _ _ dv) du) h2
def pick {α : Type} (π : List Nat) (xs : List α) : List α := π.filterMap fun i => xs[i]?
theorem DVs.pick {K : PySem.W.Frag} {H : Hp} (π : List Nat) {ds : List D} {vs : List V} (r : DVs K H ds vs) : DVs K H (Y.pick π ds) (Y.pick π vs) := by
  induction π with
  | nil => exact .nil
  | cons i π ih =>
    unfold Y.pick at ih ⊢
    rw [List.filterMap_cons, List.filterMap_cons]
    cases e : ds[i]? with
    | none =>
      have e' : vs[i]? = none := List.getElem?_eq_none_iff.mpr (by rw [← r.length]; exact List.getElem?_eq_none_iff.mp e)
      rw [e']
      exact ih
    | some d =>
      obtain ⟨v, e', dv⟩ := r.get e
      rw [e']
      exact .cons dv ih
theorem Vals.pick (π : List Nat) {vs : List V} {us : List Value} (r : Vals vs us) : Vals (Y.pick π vs) (Y.pick π us) := by
  induction π with
  | nil => exact .nil
  | cons i π ih =>
    unfold Y.pick at ih ⊢
    rw [List.filterMap_cons, List.filterMap_cons]
    cases e : vs[i]? with
    | none =>
      rw [Vals.none_of r e]
      exact ih
    | some d =>
      obtain ⟨v, e', dv⟩ := Vals.get r e
      rw [e']
      exact .cons dv ih
def gk {α : Type} (n m : Nat) (π : List Nat) (us ws : List α) : List α := if us.length = n ∧ ws.length = m then pick π (us ++ ws) else []
theorem DVs.gk {K : PySem.W.Frag} {H : Hp} {n m : Nat} {π : List Nat} {ds es : List D} {vs us : List V} (r : DVs K H ds vs) (r2 : DVs K H es us) : DVs K H (Y.gk n m π ds es) (Y.gk n m π vs us) := by
  unfold Y.gk
  rw [← r.length, ← r2.length]
  split
  · exact (r.app r2).pick π
  · exact .nil
def rCallK (sp : Sq) (n m : Nat) (π : List Nat) (ra rk : RA) : RE := fun σ S Q E => ra σ S (fun ds S1 => rk σ S1 (fun es S2 => sp (gk n m π ds es) S2 Q NoX) E) E
abbrev KBn' (K : PySem.W.Frag) (fd : FuncData) (ps ks : List Str) (n m : Nat) (π : List Nat) : Prop := KBinds K fd ps ks (gk n m π) (gk n m π)
theorem kb_mk {K : PySem.W.Frag} {x qual : Str} {st : Stmt} {f : Addr} {fd : FuncData} {ps ks : List Str} {n m : Nat} {π : List Nat} (F : Fun K x qual st f fd) (hne : ps ≠ [])
    (h : ∀ (kV doc pm : Value) (an : Option Addr) (cdv ct : Value) (us ws : List Value), us.length = n → ws.length = m → bindArgs (PySem.W.fnOf x qual (defArgs st) (defBody st) (defScope st) .none kV doc pm an cdv ct) ⟨us, ks.zip ws⟩ = pure (ps.zip (pick π (us ++ ws)))) : KBn' K fd ps ks n m π := by
  obtain ⟨oc, od, kV, doc, pm, an, cdv, ct, osl, rfl, lk, hcd⟩ := F.ex
  refine ⟨fun s us ws _ hl => ?_, fun {vs us zs ws} r r2 => ?_⟩
  · by_cases c : us.length = n ∧ ws.length = m
    · have e : gk n m π us ws = pick π (us ++ ws) := if_pos c
      rw [e]
      exact .of_eq (h kV doc pm an cdv ct us ws c.1 c.2)
    · have e : gk n m π us ws = [] := if_neg c
      rw [e] at hl
      exact absurd (List.eq_nil_of_length_eq_zero hl.symm) hne
  · unfold gk
    rw [← r.length, ← r2.length]
    split
    · exact Vals.pick π (Vals.append r r2)
    · exact .nil
theorem ev_callK {kws : List Keyword} {ks : List Str} {n m : Nat} {π : List Nat} {rk : RA} (F : FnOk X.prog X.w X.K X.mg X.base CX0 k fa fd ps (dn X.K sp)) (hr : Room k X.A) (hm : X.mg x = some (.ref fa)) (hk : PySem.W.keepIn X.K (.ref fa) = true) (hb : KBn' X.K fd ps ks n m π)
    (ha : EA X W (e :: es) ra) (hkw : EK X W kws rk) (hg : Gl X x := by rfl) (hall : (backToKw pos (keywordEach kws X.env)).all (·.1.isSome) = true := by rfl) (hks : (backToKw pos (keywordEach kws X.env)).filterMap (·.1) = ks := by rfl)
    (hdb : (x == ("__debug__" : Str)) = false := by decide) (he : starEach (e :: es) X.env = (false, eval e X.env) :: starEach es X.env := by rfl)
    (hpl : ((backTo pos (starEach (e :: es) X.env)).any (·.1) || (backToKw pos (keywordEach kws X.env)).any (·.1.isNone)) = false := by rfl) :
    EV X W (.Call (.Name x p) (e :: es) kws pos) (rCallK sp n m π ra rk) := by
  obtain ⟨Ta, pa, la⟩ := ha.ex
  obtain ⟨Tk, pk, lk⟩ := hkw.ex
  refine ⟨_, pe_callK (E := fun _ _ _ => False) F hr hg hm hk hb pass0 pa pk hall hks hdb he hpl, fun σ σ' H S Q Q' E' rs rh h q xi => ?_⟩
  refine la σ σ' H S _ _ E' rs rh h (fun d S1 v H1 f1 rh1 dv h1 => ?_) xi
  refine lk σ σ' H1 S1 _ _ E' (rs.mono (f1.tle rh)) rh1 h1 (fun e S2 u H2 f2 rh2 du h2 => ?_) (xi.go f1)
  exact ⟨_, S2, Q', NoX, DVs.gk (DVs.mono (f2.tle rh1) _ _ dv) du, rh2, h2, q.go (f1.trans f2), XI.no⟩
theorem ev_callK0 {kws : List Keyword} {ks : List Str} {n m : Nat} {π : List Nat} {rk : RA} (F : FnOk X.prog X.w X.K X.mg X.base CX0 k fa fd ps (dn X.K sp)) (hr : Room k X.A) (hm : X.mg x = some (.ref fa)) (hk : PySem.W.keepIn X.K (.ref fa) = true) (hb : KBn' X.K fd ps ks n m π)
    (hkw : EK X W kws rk) (hg : Gl X x := by rfl) (hall : (backToKw pos (keywordEach kws X.env)).all (·.1.isSome) = true := by rfl) (hks : (backToKw pos (keywordEach kws X.env)).filterMap (·.1) = ks := by rfl)
    (hdb : (x == ("__debug__" : Str)) = false := by decide)
    (hpl : ((backTo pos (starEach [] X.env)).any (·.1) || (backToKw pos (keywordEach kws X.env)).any (·.1.isNone)) = false := by rfl) :
    EV X W (.Call (.Name x p) [] kws pos) (rCallK sp n m π rNil rk) := by
  obtain ⟨Tk, pk, lk⟩ := hkw.ex
  refine ⟨tCallK (dn X.K sp) (gk n m π) (fun _ _ _ => False) tNil Tk, ⟨fun pins s σ H Q I h => ?_⟩, fun σ σ' H S Q Q' E' rs rh h q xi => ?_⟩
  · refine wpAny_Call_Name_kw (ld_glob I hg hm ?_ hdb)
    refine PySem.W.callWith_KW0 (h₀ := X.base) I.ok.mod.kin hk hall (thn (pk.run pos pins s σ H _ I h) fun ws s2 ⟨zs, H2, I2, rz, q2⟩ => ⟨I2.kIn, ?_⟩) hpl
    rw [hks]
    exact run_fnk F hr hb pass0 I2 .nil rz q2
  · refine lk σ σ' H S _ _ E' rs rh h (fun e S2 u H2 f2 rh2 du h2 => ?_) xi
    exact ⟨_, S2, Q', NoX, DVs.gk .nil du, rh2, h2, q.go f2, XI.no⟩
def negD (x : D) (S : Hq) (Q : Qv) : Prop := match x with | .int i => Q (.int (-i)) S | _ => False
theorem ev_neg {r1 : RE} (h : EV X W e r1) : EV X W (.UnaryOp .USub e pos) (rUn negD r1) := by
  obtain ⟨T, p, l⟩ := h.ex
  refine ⟨_, pe_un un_neg p, fun σ σ' H S Q Q' E' rs rh h q xi => ?_⟩
  refine l σ σ' H S _ _ E' rs rh h (fun d S1 v H1 f1 rh1 dv h1 => ?_) xi
  cases d <;> try exact h1.elim
  cases dv
  exact ⟨_, rfl, q _ _ _ _ f1 rh1 (.int _) h1⟩
end

/-! ### built-ins -/
def lenD (ds : List D) (S : Hq) (Q : Qv) : Prop := match ds with
  | [.tup xs] => Q (.int xs.length) S
  | [.kl xs] => Q (.int xs.length) S
  | [.str z] => z.length ≤ 1000000 ∧ Q (.int z.length) S
  | [.ref a] => ∃ xs, LsR S a xs ∧ Q (.int xs.length) S
  | _ => False
def absD (ds : List D) (S : Hq) (Q : Qv) : Prop := match ds with | [.int i] => Q (.int (if i < 0 then -i else i)) S | _ => False
def intF (ds : List D) (S : Hq) (Q : Qv) : Prop := match ds with | [.int i] => Q (.int i) S | [.bl k] => Q (.int (if k then 1 else 0)) S | _ => False
def maxD (ds : List D) (S : Hq) (Q : Qv) : Prop := match ds with | [.int i, .int j] => Q (.int (if j > i then j else i)) S | _ => False
def minD (ds : List D) (S : Hq) (Q : Qv) : Prop := match ds with | [.int i, .int j] => Q (.int (if j < i then j else i)) S | _ => False
def tupF (ds : List D) (S : Hq) (Q : Qv) : Prop := match ds with
  | [.tup xs] => Q (.tup xs) S
  | [.ref a] => ∃ xs, LsR S a xs ∧ Q (.tup xs) S
  | _ => False
def lstF (ds : List D) (S : Hq) (Q : Qv) : Prop := match ds with
  | [.tup xs] => ∀ p, S p = none → Q (.ref p) (up S p (.lst xs))
  | [.ref a] => ∃ xs, LsR S a xs ∧ ∀ p, S p = none → Q (.ref p) (up S p (.lst xs))
  | _ => False
/-- the type's name -/
def tyN (x : D) (S : Hq) : Option String := match x with
  | .non => some "NoneType" | .bl _ => some "bool" | .int _ => some "int" | .str _ => some "str" | .tup _ => some "tuple"
  | .ref a => match S a with | some (.lst _) => some "list"  | some (.dic _) => some "dict" | _ => none
  | .ty _ => none
  | .kl _ => some "list"
  | .cl _ => none
def isiB (t n : String) : Option Bool :=
  if n = "int" then some (t == "int" || t == "bool") else if n = "bool" then some (t == "bool") else if n = "tuple" then some (t == "tuple") else if n = "list" then some (t == "list") else if n = "str" then some (t == "str") else none
def isiR (t n : String) (S : Hq) (Q : Qv) : Prop := match isiB t n with | some b => Q (.bl b) S | none => False
def isiD (ds : List D) (S : Hq) (Q : Qv) : Prop := match ds with
  | [x, .ty n] => match tyN x S with | some t => isiR t n S Q | none => False
  | _ => False
theorem isiB_kit {t n : String} {b : Bool} (ht : t = "NoneType" ∨ t = "bool" ∨ t = "int" ∨ t = "str" ∨ t = "tuple" ∨ t = "list" ∨ t = "dict") (h : isiB t n = some b) : kitB t n = some b := by
  unfold isiB at h
  split at h
  · rename_i e; subst e; rcases ht with e | e | e | e | e | e | e <;> subst e <;> (cases h; decide +kernel)
  · split at h
    · rename_i e; subst e; rcases ht with e | e | e | e | e | e | e <;> subst e <;> (cases h; decide +kernel)
    · split at h
      · rename_i e; subst e; rcases ht with e | e | e | e | e | e | e <;> subst e <;> (cases h; decide +kernel)
      · split at h
        · rename_i e; subst e; rcases ht with e | e | e | e | e | e | e <;> subst e <;> (cases h; decide +kernel)
        · split at h
          · rename_i e; subst e; rcases ht with e | e | e | e | e | e | e <;> subst e <;> (cases h; decide +kernel)
          · cases h
section
variable {X : Cx} {K : PySem.W.Frag} {S : Hq} {H : Hp}
theorem TyX.ofSqT {a : Addr} {xs : List V} (h : SqT K H a xs) : TyX K H (.ref a) (.type "tuple") := by
  rcases h with (h | ⟨o, h⟩) | ⟨o, its, n, hk, hc, _⟩
  · exact .base (.tup h)
  · exact .fTuple h
  · exact .kTuple hk hc
theorem tyN_of {x : D} {v : V} {t : String} (rh : RH K S H) (d : DV K H x v) (e : tyN x S = some t) : TyX K H v (.type t) ∧ (t = "NoneType" ∨ t = "bool" ∨ t = "int" ∨ t = "str" ∨ t = "tuple" ∨ t = "list" ∨ t = "dict") := by
  cases d with
  | non => cases e; exact ⟨.base .non, by simp⟩
  | bl => cases e; exact ⟨.base (.bl _), by simp⟩
  | int => cases e; exact ⟨.base (.int _), by simp⟩
  | str => cases e; exact ⟨.base (.str _), by simp⟩
  | tup s r => cases e; exact ⟨TyX.ofSqT s, by simp⟩
  | ty => cases e
  | cl => cases e
  | kl s r =>
    cases e
    refine ⟨?_, by simp⟩
    rcases s with ⟨o, s⟩ | ⟨o, its, n, hk, hc, _⟩
    · exact .base (.frz s)
    · exact .kList hk hc
  | ref a =>
    unfold tyN at e
    simp only at e
    cases g : S a with
    | none => rw [g] at e; cases e
    | some o =>
      have q := rh a o g
      rw [g] at e
      cases o with
      | lst xs => cases e; obtain ⟨ys, q, _⟩ := q; exact ⟨.base (.lst q), by simp⟩
      | ins C fs => cases e
      | exd fs => cases e
      | dic kvs =>
        cases e
        rcases q with ⟨ys, q, _⟩ | ⟨ys, q, _⟩
        · exact ⟨.base (.dK q), by simp⟩
        · exact ⟨.base (.dT q), by simp⟩
theorem lc_isi : LiftC K isiD (rIsi K) := by
  intro ds S H Q' Q vs rh dv h q
  match ds, dv with
  | [x, .ty n], .cons d1 (.cons d2 .nil) =>
    cases d2
    have h : (match tyN x S with | some t => isiR t n S Q' | none => False) := h
    split at h
    · rename_i t et
      unfold isiR at h
      split at h
      · rename_i b eb
        obtain ⟨ty, ts⟩ := tyN_of rh d1 et
        exact ⟨_, _, _, _, b, rfl, .ty n, ty, kit_ty (isiB_kit ts eb), q.here rh (.bl _) h⟩
      · exact h.elim
    · exact h.elim
theorem cr_len : CallR X (.builtin "len") (fun xs H Q => (∃ p ys, xs = [.ref p] ∧ (SqL X.K H p ys ∨ SqT X.K H p ys) ∧ Q (.int ys.length) H) ∨ (∃ z, xs = [.str z] ∧ z.length ≤ sizeLine ∧ Q (.int z.length) H)) := callr_or call_len_seq call_len_str
theorem lc_len : LiftC K lenD (fun xs H Q => (∃ p ys, xs = [.ref p] ∧ (SqL K H p ys ∨ SqT K H p ys) ∧ Q (.int ys.length) H) ∨ (∃ z, xs = [.str z] ∧ z.length ≤ sizeLine ∧ Q (.int z.length) H)) := by
  intro ds S H Q' Q vs rh dv h q
  match ds, dv, h with
  | [.tup xs], .cons (.tup s r) .nil, h => exact .inl ⟨_, _, rfl, .inr s, by rw [← r.length]; exact q.here rh (.int _) h⟩
  | [.kl xs], .cons (.kl s r) .nil, h => exact .inl ⟨_, _, rfl, .inl s.sql, by rw [← r.length]; exact q.here rh (.int _) h⟩
  | [.str z], .cons (.str _) .nil, h => exact .inr ⟨z, rfl, big_le h.1, q.here rh (.int _) h.2⟩
  | [.ref a], .cons (.ref _) .nil, h =>
    obtain ⟨xs, l, h⟩ := h
    obtain ⟨ys, s, r⟩ := rh.sql l
    exact .inl ⟨_, _, rfl, .inl s, by rw [← r.length]; exact q.here rh (.int _) h⟩
theorem lc_abs : LiftC K absD (fun xs H Q => ∃ i, xs = [.int i] ∧ Q (.int (if i < 0 then -i else i)) H) := by
  intro ds S H Q' Q vs rh dv h q
  match ds, dv, h with
  | [.int i], .cons (.int _) .nil, h => exact ⟨_, rfl, q.here rh (.int _) h⟩
theorem lc_int : LiftC K intF (fun xs H Q => (∃ i, xs = [.int i] ∧ Q (.int i) H) ∨ ∃ k, xs = [.bl k] ∧ Q (.int (if k then 1 else 0)) H) := by
  intro ds S H Q' Q vs rh dv h q
  match ds, dv, h with
  | [.int i], .cons (.int _) .nil, h => exact .inl ⟨_, rfl, q.here rh (.int _) h⟩
  | [.bl i], .cons (.bl _) .nil, h => exact .inr ⟨_, rfl, q.here rh (.int _) h⟩
theorem lc_max : LiftC K maxD (fun xs H Q => ∃ i j, xs = [.int i, .int j] ∧ Q (.int (if j > i then j else i)) H) := by
  intro ds S H Q' Q vs rh dv h q
  match ds, dv, h with
  | [.int i, .int j], .cons (.int _) (.cons (.int _) .nil), h => exact ⟨_, _, rfl, q.here rh (.int _) h⟩
theorem lc_min : LiftC K minD (fun xs H Q => ∃ i j, xs = [.int i, .int j] ∧ Q (.int (if j < i then j else i)) H) := by
  intro ds S H Q' Q vs rh dv h q
  match ds, dv, h with
  | [.int i, .int j], .cons (.int _) (.cons (.int _) .nil), h => exact ⟨_, _, rfl, q.here rh (.int _) h⟩
theorem lc_tup : LiftC K tupF (fun xs H Q => ∃ p ys, xs = [.ref p] ∧ ((SqL K H p ys ∧ ∀ l, H l = none → Q (.ref l) (upd H l (.tup ys))) ∨ (SqT K H p ys ∧ Q (.ref p) H))) := by
  intro ds S H Q' Q vs rh dv h q
  match ds, dv, h with
  | [.tup xs], .cons (.tup s r) .nil, h => exact ⟨_, _, rfl, .inr ⟨s, q.here rh (.tup s r) h⟩⟩
  | [.ref a], .cons (.ref _) .nil, h =>
    obtain ⟨xs, l, h⟩ := h
    obtain ⟨ys, s, r⟩ := rh.sql l
    exact ⟨_, _, rfl, .inl ⟨s, fun p hp => q.newT rh hp r h⟩⟩
theorem lc_list : LiftC K lstF (fun xs H Q => ∃ p ys, xs = [.ref p] ∧ (SqL K H p ys ∨ SqT K H p ys) ∧ ∀ l, H l = none → Q (.ref l) (upd H l (.lst ys))) := by
  intro ds S H Q' Q vs rh dv h q
  match ds, dv, h with
  | [.tup xs], .cons (.tup s r) .nil, h => exact ⟨_, _, rfl, .inr s, fun p hp => q.newL rh hp r (h p (rh.fresh hp))⟩
  | [.ref a], .cons (.ref _) .nil, h =>
    obtain ⟨xs, l, h⟩ := h
    obtain ⟨ys, s, r⟩ := rh.sql l
    exact ⟨_, _, rfl, .inl s, fun p hp => q.newL rh hp r (h p (rh.fresh hp))⟩
end

/-! ### methods of built-in types -/
def rMt (T : String) (f : D → List D → Hq → Qv → Prop) (ro : RE) (ra : RA) : RE := fun σ S Q E => ro σ S (fun x S1 => tyN x S1 = some T ∧ ra σ S1 (fun ds S2 => f x ds S2 Q) E) E
def LiftM (K : PySem.W.Frag) (f : D → List D → Hq → Qv → Prop) (r : V → List V → Hp → VK → Prop) : Prop := ∀ x ds S H Q' Q v vs, RH K S H → DV K H x v → DVs K H ds vs → f x ds S Q' → QI K S H Q' Q → r v vs H Q
section
variable {X : Cx} {K : PySem.W.Frag} {S : Hq} {H : Hp} {W : WX}
theorem tyV_of {x : D} {v : V} {T : String} (rh : RH K S H) (d : DV K H x v) (hT : T = "list" ∨ T = "str" ∨ T = "dict") (e : tyN x S = some T) : tyV K T v H := by
  cases d with
  | str => cases e; rfl
  | ref a =>
    unfold tyN at e
    simp only at e
    cases g : S a with
    | none => rw [g] at e; cases e
    | some o =>
      have q := rh a o g
      rw [g] at e
      cases o with
      | lst xs => cases e; obtain ⟨ys, q, _⟩ := q; exact .inl ⟨rfl, ys, .inl (.inl q)⟩
      | ins C fs => cases e
      | exd fs => cases e
      | dic kvs =>
        cases e
        rcases q with ⟨ys, q, _⟩ | ⟨ys, q, _⟩
        · exact .inr (.inr (.inl ⟨rfl, .inl ⟨ys, q⟩⟩))
        · exact .inr (.inr (.inl ⟨rfl, .inr ⟨ys, q⟩⟩))
  | non => cases e; rcases hT with e | e | e <;> simp at e
  | bl => cases e; rcases hT with e | e | e <;> simp at e
  | int => cases e; rcases hT with e | e | e <;> simp at e
  | tup => cases e; rcases hT with e | e | e <;> simp at e
  | ty => cases e
  | cl => cases e
  | kl s r => cases e; exact .inl ⟨rfl, _, s.sql⟩
variable {o e : Expr} {es : List Expr} {ro : RE} {ra : RA} {name : Str} {apos cpos : Pos} {T id : String} {f : D → List D → Hq → Qv → Prop} {r : V → List V → Hp → VK → Prop}
theorem ev_mt (pa : PlainAttrs T) (slot : Slot T name id) (hty : typeOf (.builtin id) = pure (.type "method_descriptor")) (hT : T = "list" ∨ T = "str" ∨ T = "dict") (hm : MtR X id r) (hl : LiftM X.K f r) (ho : EV X W o ro) (ha : EA X W (e :: es) ra)
    (hbase : attributeBase o name X.env (eval o X.env) = eval o X.env := by rfl)
    (hfew : ((backTo cpos (starEach (e :: es) X.env)).all (fun x => !x.1) && (backToKw cpos (keywordEach [] X.env)).all (fun x => x.1.isSome)
      && decide ((e :: es).length + ([] : List Keyword).length + (if ([] : List Keyword).isEmpty then 0 else 1) < 30)) = true := by rfl)
    (hline : (apos.endLine == cpos.line) = true := by rfl) (hs : starEach (e :: es) X.env = (false, eval e X.env) :: starEach es X.env := by rfl) (hplain : (backTo cpos (starEach es X.env)).any (·.1) = false := by rfl) :
    EV X W (.Call (.Attribute o name apos) (e :: es) [] cpos) (rMt T f ro ra) := by
  obtain ⟨To, po, lo⟩ := ho.ex
  obtain ⟨Ta, paa, la⟩ := ha.ex
  refine ⟨_, pe_bm pa slot hty hm po paa hbase hfew hline hs hplain, fun σ σ' H S Q Q' E' rs rh h q xi => ?_⟩
  refine lo σ σ' H S _ _ E' rs rh h (fun d S1 v H1 f1 rh1 dv h1 => ⟨tyV_of rh1 dv hT h1.1, ?_⟩) xi
  refine la σ σ' H1 S1 _ _ E' (rs.mono (f1.tle rh)) rh1 h1.2 (fun e S2 u H2 f2 rh2 du h2 => ?_) (xi.go f1)
  exact hl _ _ _ _ _ _ _ _ rh2 (DV.mono (f2.tle rh1) _ _ dv) du h2 (q.go (f1.trans f2))
theorem ev_mt0 (pa : PlainAttrs T) (slot : Slot T name id) (hty : typeOf (.builtin id) = pure (.type "method_descriptor")) (hT : T = "list" ∨ T = "str" ∨ T = "dict") (hm : MtR X id r) (hl : LiftM X.K f r) (ho : EV X W o ro)
    (hbase : attributeBase o name X.env (eval o X.env) = eval o X.env := by rfl) (hline : (apos.endLine == cpos.line) = true := by rfl) : EV X W (.Call (.Attribute o name apos) [] [] cpos) (rMt T f ro rNil) := by
  obtain ⟨To, po, lo⟩ := ho.ex
  refine ⟨_, pe_bm0 pa slot hty hm po hbase hline, fun σ σ' H S Q Q' E' rs rh h q xi => ?_⟩
  refine lo σ σ' H S _ _ E' rs rh h (fun d S1 v H1 f1 rh1 dv h1 => ⟨tyV_of rh1 dv hT h1.1, ?_⟩) xi
  exact hl _ _ _ _ _ _ _ _ rh1 dv .nil h1.2 (q.go f1)
def appD (x : D) (ds : List D) (S : Hq) (Q : Qv) : Prop := match x, ds with
  | .ref a, [y] => ∃ xs, S a = some (.lst xs) ∧ xs.length < 1000000 ∧ Q .non (up S a (.lst (xs ++ [y])))
  | _, _ => False
theorem lm_app : LiftM K appD rAppend := by
  intro x ds S H Q' Q v vs rh dx dv h q
  match x, ds, dx, dv, h with
  | .ref a, [y], .ref _, .cons d .nil, h =>
    obtain ⟨xs, e, hz, h⟩ := h
    obtain ⟨ys, g, r⟩ := rh.lst e
    exact ⟨_, ys, _, rfl, rfl, g, by rw [← r.length]; exact big_lt hz, q.putL rh e (r.app (.cons d .nil)) .non h⟩
def extD (x : D) (ds : List D) (S : Hq) (Q : Qv) : Prop := match x, ds with
  | .ref a, [.ref b] => ∃ xs ys, S a = some (.lst xs) ∧ S b = some (.lst ys) ∧ xs.length + ys.length ≤ 1000000 ∧ Q .non (up S a (.lst (xs ++ ys)))
  | _, _ => False
theorem lm_ext : LiftM K extD rExtend := by
  intro x ds S H Q' Q v vs rh dx dv h q
  match x, ds, dx, dv, h with
  | .ref a, [.ref b], .ref _, .cons (.ref _) .nil, h =>
    obtain ⟨xs, ys, e, e2, hz, h⟩ := h
    obtain ⟨us, g, r⟩ := rh.lst e
    obtain ⟨ws, g2, r2⟩ := rh.lst e2
    exact ⟨_, _, us, ws, rfl, rfl, g, g2, by rw [← r.length, ← r2.length]; exact big_le hz, q.putL rh e (r.app r2) .non h⟩
/-- texts -/
def strsD : List D → Option (List Str)
  | [] => some []
  | .str z :: r => (strsD r).map (z :: ·)
  | _ :: _ => none
theorem strsD_of : ∀ {ds : List D} {zs : List Str} {vs : List V}, strsD ds = some zs → DVs K H ds vs → vs = zs.map V.str
  | [], _, _, e, h => by cases h; cases e; rfl
  | .str z :: r, _, _, e, h => by
    cases h with | cons a b =>
    cases a
    unfold strsD at e
    cases g : strsD r with
    | none => rw [g] at e; cases e
    | some l => rw [g] at e; cases e; rw [strsD_of g b]; rfl
  | .non :: _, _, _, e, _ => by cases e
  | .bl _ :: _, _, _, e, _ => by cases e
  | .int _ :: _, _, _, e, _ => by cases e
  | .tup _ :: _, _, _, e, _ => by cases e
  | .ref _ :: _, _, _, e, _ => by cases e
  | .ty _ :: _, _, _, e, _ => by cases e
  | .kl _ :: _, _, _, e, _ => by cases e
  | .cl _ :: _, _, _, e, _ => by cases e
def joinD (x : D) (ds : List D) (S : Hq) (Q : Qv) : Prop := match x, ds with
  | .str z, [.ref a] => ∃ xs zs, LsR S a xs ∧ strsD xs = some zs ∧ (zs.map (·.length)).sum + zs.length * z.length ≤ 1000000 ∧ Q (.str (Txt.join z zs)) S
  | .str z, [.tup xs] => ∃ zs, strsD xs = some zs ∧ (zs.map (·.length)).sum + zs.length * z.length ≤ 1000000 ∧ Q (.str (Txt.join z zs)) S
  | _, _ => False
theorem lm_join : LiftM X.K joinD (fun x xs H Q => ∃ a p, ∃ ys : List Str, x = .str a ∧ xs = [.ref p] ∧ (SqL X.K H p (ys.map V.str) ∨ SqT X.K H p (ys.map V.str)) ∧
    (ys.map (·.length)).sum + ys.length * a.length ≤ 16777216 ∧ Q (.str (Txt.join a ys)) H) := by
  intro x ds S H Q' Q v vs rh dx dv h q
  match x, ds, dx, dv, h with
  | .str z, [.ref a], .str _, .cons (.ref _) .nil, h =>
    obtain ⟨xs, zs, l, e, hz, h⟩ := h
    obtain ⟨ys, s, r⟩ := rh.sql l
    rw [strsD_of e r] at s
    exact ⟨_, _, zs, rfl, rfl, .inl s, Nat.le_trans hz (by decide), q.here rh (.str _) h⟩
  | .str z, [.tup xs], .str _, .cons (.tup s r) .nil, h =>
    obtain ⟨zs, e, hz, h⟩ := h
    rw [strsD_of e r] at s
    exact ⟨_, _, zs, rfl, rfl, .inr s, Nat.le_trans hz (by decide), q.here rh (.str _) h⟩
def stwD (x : D) (ds : List D) (S : Hq) (Q : Qv) : Prop := match x, ds with
  | .str a, [.str b] => Q (.bl (Txt.startswith a b)) S
  | _, _ => False
theorem lm_stw : LiftM K stwD (fun x xs H Q => ∃ a b, x = .str a ∧ xs = [.str b] ∧ Q (.bl (Txt.startswith a b)) H) := by
  intro x ds S H Q' Q v vs rh dx dv h q
  match x, ds, dx, dv, h with
  | .str a, [.str b], .str _, .cons (.str _) .nil, h => exact ⟨a, b, rfl, rfl, q.here rh (.bl _) h⟩
end
end Y
namespace Y
open PySem PySem.Spec PyProof.Rows L2

/-! ### targets -/
abbrev RG := D → Sg → Hq → (Sg → Hq → Prop) → Xw → Prop
abbrev RGs := List D → Sg → Hq → (Sg → Hq → Prop) → Xw → Prop
def SI' (K : PySem.W.Frag) (S : Hq) (H : Hp) (N' : Sg → Hq → Prop) (N : L2.St → Hp → Prop) : Prop := SI K S H N' N
structure EG (X : Cx) (W : WX) (tg : Expr) (t : RG) : Prop where
  ex : ∃ T, PG X tg T ∧ ∀ (σ : L2.St) (σ' : Sg) (H : Hp) (S : Hq) (d : D) (v : V) (N : L2.St → Hp → Prop) (N' : Sg → Hq → Prop) (E' : Xw), RS X.K H σ' σ → RH X.K S H → DV X.K H d v → t d σ' S N' E' → SI X.K S H N' N → XI X.K S H E' (wx W σ) → T v σ H N
structure EGs (X : Cx) (W : WX) (tg : List Expr) (t : RGs) : Prop where
  ex : ∃ T, PGs X tg T ∧ ∀ (σ : L2.St) (σ' : Sg) (H : Hp) (S : Hq) (d : List D) (v : List V) (N : L2.St → Hp → Prop) (N' : Sg → Hq → Prop), RS X.K H σ' σ → RH X.K S H → DVs X.K H d v → t d σ' S N' NoX → SI X.K S H N' N → T v σ H N
def gNm (i : Nat) : RG := fun d σ S N _ => N (σ.set i (some d)) S
def gNils : RGs := fun ds σ S N _ => match ds with | [] => N σ S | _ => False
def gConss (g : RG) (r : RGs) : RGs := fun ds σ S N E => match ds with | d :: ds => g d σ S (fun σ1 S1 => r ds σ1 S1 N E) E | _ => False
def gTp (n : Nat) (r : RGs) : RG := fun d σ S N _ => match d with | .tup ds => ds.length = n ∧ r ds σ S N NoX | _ => False
section
variable {X : Cx} {W : WX} {pos : Pos}
theorem eg_nm (i : Nat) {x : Str} (hN : X.N.Nodup) (hi : X.N[i]? = some x := by rfl) (hx : Loc X.env.scope x := by first | exact .inl rfl | exact .inr rfl) (hf : X.fn x = true ∨ X.env.scope.names.lookup x = some .local := by first | exact .inl rfl | exact .inr rfl | assumption) : EG X W (.Name x pos) (gNm i) :=
  ⟨_, pg_name hN hi hx hf, fun σ σ' H S d v N N' E' rs rh dv h n x => n _ _ _ _ Fr.refl rh (rs.set dv i) h⟩
theorem egs_nil : EGs X W [] gNils := by
  refine ⟨_, pgs_nil, fun σ σ' H S d v N N' rs rh dv h n => ?_⟩
  cases dv with
  | nil => exact ⟨rfl, n _ _ _ _ Fr.refl rh rs h⟩
  | cons _ _ => exact h.elim
theorem egs_cons {e : Expr} {es : List Expr} {g : RG} {r : RGs} (h1 : EG X W e g) (h2 : EGs X W es r) (hs : (assignEach (e :: es) X.env).map (·.2) = assign e X.env :: (assignEach es X.env).map (·.2) := by rfl) : EGs X W (e :: es) (gConss g r) := by
  obtain ⟨T1, p1, l1⟩ := h1.ex
  obtain ⟨T2, p2, l2⟩ := h2.ex
  refine ⟨_, pgs_cons p1 p2 hs, fun σ σ' H S d v N N' rs rh dv h n => ?_⟩
  cases dv with
  | nil => exact h.elim
  | cons x r =>
    refine ⟨_, _, rfl, l1 σ σ' H S _ _ _ _ NoX rs rh x h (fun σ1' S1 σ1 H1 f1 rh1 rs1 h1 => ?_) XI.no⟩
    exact l2 σ1 σ1' H1 S1 _ _ _ _ rs1 rh1 (DVs.mono (f1.tle rh) _ _ r) h1 (n.go f1)
theorem eg_tp {es : List Expr} {k : Nat} {r : RGs} {n : Nat} (hc : X.calm = true) (h : EGs X W es r) (hn : (assignEach es X.env).length = n := by rfl) (hst : (assignEach es X.env).findIdx? (·.1) = none := by rfl) : EG X W (.Tuple es k pos) (gTp n r) := by
  obtain ⟨T, p, l⟩ := h.ex
  refine ⟨_, pg_tup hc p hn hst, fun σ σ' H S d v N N' E' rs rh dv h nn x => ?_⟩
  cases dv with
  | tup s r => exact ⟨_, _, rfl, s, by rw [← r.length]; exact h.1, l σ σ' H S _ _ N N' rs rh r h.2 nn⟩
  | _ => exact h.elim
def setD (o i d : D) (S : Hq) (Q : Hq → Prop) : Prop := match o, i with
  | .ref a, .int k => ∃ xs j, S a = some (.lst xs) ∧ ixN xs.length k = some j ∧ Q (up S a (.lst (xs.set j d)))
  | _, _ => False
def gSb (ro ri : RE) : RG := fun d σ S N E => ro σ S (fun o S1 => ri σ S1 (fun i S2 => setD o i d S2 (fun S3 => N σ S3)) E) E
theorem eg_sb {o i : Expr} {ro ri : RE} (ho : EV X W o ro) (hi : EV X W i ri)
    (ha : ∀ v, assign (.Subscript o i pos) X.env v = (do
      let ov ← holding [v] (eval o X.env)
      let iv ← holding [v, ov] (eval i X.env)
      standAt pos
      holding [v, ov, iv] (setItem ov iv v)
      release [v, ov, iv] []) := by intro _; rfl) : EG X W (.Subscript o i pos) (gSb ro ri) := by
  obtain ⟨To, po, lo⟩ := ho.ex
  obtain ⟨Ti, pi, li⟩ := hi.ex
  refine ⟨_, pg_sub po pi set_list ha, fun σ σ' H S d v N N' E' rs rh dv h n x => ?_⟩
  refine lo σ σ' H S _ _ E' rs rh h (fun o S1 ov H1 f1 rh1 do1 h1 => ?_) x
  refine li σ σ' H1 S1 _ _ E' (rs.mono (f1.tle rh)) rh1 h1 (fun i S2 iv H2 f2 rh2 di h2 => ?_) (x.go f1)
  cases o <;> cases i <;> try exact h2.elim
  cases do1; cases di
  obtain ⟨xs, j, e, ix, h2⟩ := h2
  obtain ⟨ys, g, r⟩ := rh2.lst e
  have f12 := f1.trans f2
  have dv2 := DV.mono (f12.tle rh) _ _ dv
  have t : Tle X.K H2 (upd H2 _ (.lst (ys.set j v))) := rh2.putTle (o := .lst (ys.set j v)) e
  have f3 := Fr.put (H := H2) (o := .lst (ys.set j v)) (q := .lst (xs.set j d)) e
  exact ⟨_, ys, _, j, rfl, rfl, g, by rw [← r.length]; exact ix, n _ _ _ _ (f12.trans f3) (rh2.put (q := .lst (xs.set j d)) e ⟨_, upd_same, DVs.mono t _ _ (r.set j dv2)⟩) (rs.mono ((f12.trans f3).tle rh)) h2⟩
end

/-! ### statements -/
def En.x (D : En) (σ : Sg) : Xw := fun C fs S => D.ex C fs σ S
def rNext : RSt := fun D σ S => D.nx σ S
def rSeq (t u : RSt) : RSt := fun D σ S => t { D with nx := u D } σ S
def rDrop (r : RE) : RSt := fun D σ S => r σ S (fun _ S1 => D.nx σ S1) (D.x σ)
def rRet (r : RE) : RSt := fun D σ S => r σ S D.rt (D.x σ)
def rRetN : RSt := fun D _ S => D.rt .non S
def rBrk : RSt := fun D σ S => D.bk σ S
def rCnt : RSt := fun D σ S => D.ct σ S
def rIfS (c : RT) (t u : RSt) : RSt := fun D σ S => c σ S (fun b S1 => if b = true then t D σ S1 else u D σ S1) (D.x σ)
def rSet (r : RE) (g : RG) : RSt := fun D σ S => r σ S (fun d S1 => g d σ S1 D.nx (D.x σ)) (D.x σ)
section
variable {X : Cx} {W : WX} {st : Stmt} {rest : List Stmt} {t u : RSt} {e : Expr} {r : RE} {pos : Pos}
theorem DI.xi {K : PySem.W.Frag} {S : Hq} {H : Hp} {D' : En} {D : Ends} {σ' : Sg} {σ : L2.St} (d : DI K W S H D' D) (rh : RH K S H) (rs : RS K H σ' σ) : XI K S H (D'.x σ') (wx W σ) := fun n C fs S' H' dd c f rh' x nw h => d.ex n C fs σ' S' σ H' dd c f rh' (rs.mono (f.tle rh)) x nw h
theorem eb_nil : EB X W [] rNext := ⟨_, pss_nil, fun σ σ' H S D D' rs rh h d => d.nx _ _ _ _ Fr.refl rh rs h⟩
theorem eb_cons (h1 : ES X W st t) (h2 : EB X W rest u) : EB X W (st :: rest) (rSeq t u) := by
  obtain ⟨T1, p1, l1⟩ := h1.ex
  obtain ⟨T2, p2, l2⟩ := h2.ex
  refine ⟨_, pss_cons p1 p2, fun σ σ' H S D D' rs rh h d => ?_⟩
  refine l1 σ σ' H S _ { D' with nx := u D' } rs rh h ⟨fun σ1' S1 σ1 H1 f1 rh1 rs1 h1 => ?_, d.rt, d.bk, d.ct, d.ex⟩
  exact l2 σ1 σ1' H1 S1 D D' rs1 rh1 h1 (d.go f1)
theorem eb_one (h1 : ES X W st t) : EB X W [st] t := let ⟨T, p, l⟩ := h1.ex; ⟨T, pss_one p, l⟩
theorem es_pass : ES X W (.Pass pos) rNext := ⟨_, ps_pass, fun σ σ' H S D D' rs rh h d => d.nx _ _ _ _ Fr.refl rh rs h⟩
theorem es_brk : ES X W (.Break pos) rBrk := ⟨_, ps_break, fun σ σ' H S D D' rs rh h d => d.bk _ _ _ _ Fr.refl rh rs h⟩
theorem es_cnt : ES X W (.Continue pos) rCnt := ⟨_, ps_continue, fun σ σ' H S D D' rs rh h d => d.ct _ _ _ _ Fr.refl rh rs h⟩
theorem es_expr (h : EV X W e r) (hs : swapsWith e none pos.line X.env = pure false := by rfl) : ES X W (.Expr e pos) (rDrop r) := by
  obtain ⟨T, p, l⟩ := h.ex
  refine ⟨_, ps_expr p hs, fun σ σ' H S D D' rs rh h d => ?_⟩
  exact l σ σ' H S _ _ _ rs rh h (fun _ S1 v H1 f1 rh1 dv h1 => d.nx _ _ _ _ f1 rh1 (rs.mono (f1.tle rh)) h1) (d.xi rh rs)
theorem es_ret (h : EV X W e r) : ES X W (.Return (some e) pos) (rRet r) := by
  obtain ⟨T, p, l⟩ := h.ex
  refine ⟨_, ps_ret p, fun σ σ' H S D D' rs rh h d => ?_⟩
  exact l σ σ' H S _ _ _ rs rh h d.rt (d.xi rh rs)
theorem es_retN : ES X W (.Return none pos) rRetN := ⟨_, ps_retN, fun σ σ' H S D D' rs rh h d => d.rt.here rh .non h⟩
theorem es_if {c : Expr} {a b : List Stmt} {tc : RT} (hc : ET X W c tc) (ha : EB X W a t) (hb : EB X W b u) : ES X W (.If c a b pos) (rIfS tc t u) := by
  obtain ⟨Tc, pc, lc⟩ := hc.ex
  obtain ⟨Ta, pa, la⟩ := ha.ex
  obtain ⟨Tb, pb, lb⟩ := hb.ex
  refine ⟨_, ps_if pc pa pb, fun σ σ' H S D D' rs rh h d => ?_⟩
  refine lc σ σ' H S _ _ _ rs rh h (fun b S1 H1 f1 rh1 h1 => ?_) (d.xi rh rs)
  cases b with
  | true => exact la σ σ' H1 S1 D D' (rs.mono (f1.tle rh)) rh1 h1 (d.go f1)
  | false => exact lb σ σ' H1 S1 D D' (rs.mono (f1.tle rh)) rh1 h1 (d.go f1)
theorem es_set (i : Nat) {x : Str} {pos' : Pos} (hN : X.N.Nodup) (he : EV X W e r) (hi : X.N[i]? = some x := by rfl) (hx : Loc X.env.scope x := by first | exact .inl rfl | exact .inr rfl) (hs : swapsWith e (some (.Name x pos')) pos.line X.env = pure false := by rfl)
    (hf : X.fn x = true ∨ X.env.scope.names.lookup x = some .local := by first | exact .inl rfl | exact .inr rfl | assumption) : ES X W (.Assign [.Name x pos'] e pos) (rSet r (gNm i)) := by
  obtain ⟨T, p, l⟩ := he.ex
  refine ⟨_, L2.ps_set hN hi hx p hs hf, fun σ σ' H S D D' rs rh h d => ?_⟩
  exact l σ σ' H S _ _ _ rs rh h (fun _ S1 v H1 f1 rh1 dv h1 => d.nx _ _ _ _ f1 rh1 ((rs.mono (f1.tle rh)).set dv i) h1) (d.xi rh rs)
theorem es_asg {tg : Expr} {g : RG} (he : EV X W e r) (hg : EG X W tg g) (hs : swapsWithSole [tg] e pos.line X.env = pure false := by rfl) (hw : swappedStores [tg] e X.env = pure none := by rfl)
    (h1 : (assignEach [tg] X.env).map (·.2) = [assign tg X.env] := by rfl) : ES X W (.Assign [tg] e pos) (rSet r g) := by
  obtain ⟨T, p, l⟩ := he.ex
  obtain ⟨Tg, pg, lg⟩ := hg.ex
  refine ⟨_, ps_asg p pg hs hw h1, fun σ σ' H S D D' rs rh h d => ?_⟩
  refine l σ σ' H S _ _ _ rs rh h (fun _ S1 v H1 f1 rh1 dv h1 => ?_) (d.xi rh rs)
  exact lg σ σ' H1 S1 _ _ _ _ _ (rs.mono (f1.tle rh)) rh1 dv h1 (d.go f1).nx ((d.xi rh rs).go f1)

def rPar (i j : Nat) (ra : RA) : RSt := fun D σ S => ra σ S (fun ds S1 => match ds with | [x, y] => D.nx ((σ.set i (some x)).set j (some y)) S1 | _ => False) (D.x σ)
theorem es_par {i j : Nat} {x y : Str} {a b : Expr} {ra : RA} {px py pt : Pos} {kt k2 pt2} (hc : X.calm = true) (hN : X.N.Nodup) (hij : i ≠ j) (ha : EA X W [a, b] ra) (hi : X.N[i]? = some x := by rfl) (hj : X.N[j]? = some y := by rfl)
    (hx : X.env.scope.names.lookup x = some .local := by rfl) (hy : X.env.scope.names.lookup y = some .local := by rfl)
    (hw : swappedStores [.Tuple [.Name x px, .Name y py] kt pt] (.Tuple [a, b] k2 pt2) X.env = pure (some [x, y]) := by rfl)
    (hs : swapsWithSole [.Tuple [.Name x px, .Name y py] kt pt] (.Tuple [a, b] k2 pt2) pos.line X.env = pure false := by rfl) :
    ES X W (.Assign [.Tuple [.Name x px, .Name y py] kt pt] (.Tuple [a, b] k2 pt2) pos) (rPar i j ra) := by
  obtain ⟨T, p, l⟩ := ha.ex
  refine ⟨_, ps_par hc hN hi hj hij hx hy p hw hs, fun σ σ' H S D D' rs rh h d => ?_⟩
  refine l σ σ' H S _ _ _ rs rh h (fun ds S1 v H1 f1 rh1 dv h1 => ?_) (d.xi rh rs)
  match ds, dv, h1 with
  | [x, y], .cons dx (.cons dy .nil), h1 => exact ⟨_, _, rfl, d.nx _ _ _ _ f1 rh1 (((rs.mono (f1.tle rh)).set dx i).set dy j) h1⟩
/-! ### what is walked -/
structure ItOk (K : PySem.W.Frag) (S1 : Hq) (H1 : Hp) (J : It) (xs : List D) (g : Hq → Prop) : Prop where
  stop : ∀ S H, Fr S1 H1 S H → RH K S H → g S → J.stop xs.length H
  go : ∀ (i : Nat) x S H, xs[i]? = some x → Fr S1 H1 S H → RH K S H → g S → J.go i H
  yld : ∀ (i : Nat) x S H v H', xs[i]? = some x → Fr S1 H1 S H → RH K S H → g S → J.yld i H v H' → Fr S H S H' ∧ RH K S H' ∧ DV K H' x v
abbrev RI := Sg → Hq → (List D → (Hq → Prop) → Hq → Prop) → Xw → Prop
structure EI (X : Cx) (W : WX) (tg it : Expr) (t : RI) : Prop where
  ex : ∃ wi, PI X tg it wi ∧ ∀ (σ : L2.St) (σ' : Sg) (H : Hp) (S : Hq) (R : It → Hp → Prop) (R' : List D → (Hq → Prop) → Hq → Prop) (E' : Xw), RS X.K H σ' σ → RH X.K S H → t σ' S R' E' →
    (∀ J xs g S' H', Fr S H S' H' → RH X.K S' H' → ItOk X.K S' H' J xs g → R' xs g S' → R J H') → XI X.K S H E' (wx W σ) → wi σ H R
/-- the turns over what is left -/
def loopP (gd : Hq → Prop) (g : RG) (tb : RSt) : List D → RSt
  | [] => fun D σ S => gd S ∧ D.nx σ S
  | x :: r => fun D σ S => gd S ∧ g x σ S (fun σ2 S2 => tb { D with nx := loopP gd g tb r D, ct := loopP gd g tb r D, bk := D.nx } σ2 S2) (D.x σ)
def rFor (ri : RI) (g : RG) (tb : RSt) : RSt := fun D σ S => ri σ S (fun xs gd S1 => loopP gd g tb xs D σ S1) (D.x σ)
theorem es_for {tg it : Expr} {body : List Stmt} {ri : RI} {g : RG} {tb : RSt} (hp : PassesOwn (model X.prog X.w) X.A X.env X.xe) (hc : X.calm = true) (hi : EI X W tg it ri) (hg : EG X W tg g) (hb : EB X W body tb)
    (hs : ∀ x, foldedSetIterable it X.env x = pure x := by intro _; rfl) : ES X W (.For tg it body [] pos) (rFor ri g tb) := by
  obtain ⟨wi, pi, li⟩ := hi.ex
  obtain ⟨Tg, pg, lg⟩ := hg.ex
  obtain ⟨Tb, pb, lb⟩ := hb.ex
  refine ⟨_, ps_for hp hc pi pg pb hs, fun σ σ' H S D D' rs rh h d => ?_⟩
  refine li σ σ' H S _ _ _ rs rh h (fun J xs gd S1 H1 f1 rh1 ok h1 => ?_) (d.xi rh rs)
  refine ⟨fun i m σ2 H2 => ∃ σ2' S2, i + m = xs.length ∧ Fr S1 H1 S2 H2 ∧ RS X.K H2 σ2' σ2 ∧ RH X.K S2 H2 ∧ loopP gd g tb (xs.drop i) D' σ2' S2, ⟨xs.length, σ', S1, by omega, Fr.refl, rs.mono (f1.tle rh), rh1, by simpa using h1⟩, ?_⟩
  rintro i m σ2 H2 ⟨σ2', S2, em, f2, rs2, rh2, h2⟩
  have d2 := d.go (f1.trans f2)
  by_cases hi : i < xs.length
  · obtain ⟨x, hx⟩ : ∃ x, xs[i]? = some x := ⟨_, List.getElem?_eq_getElem hi⟩
    have hd : xs.drop i = x :: xs.drop (i + 1) := by
      rw [List.drop_eq_getElem_cons hi]
      rw [List.getElem?_eq_getElem hi] at hx
      rw [Option.some.inj hx]
    rw [hd] at h2
    obtain ⟨gd2, h2⟩ := h2
    refine .inr ⟨ok.go i x S2 H2 hx f2 rh2 gd2, fun σ3 H3 => ∃ σ3' S3, Fr S1 H1 S3 H3 ∧ RS X.K H3 σ3' σ3 ∧ RH X.K S3 H3 ∧ loopP gd g tb (xs.drop (i + 1)) D' σ3' S3, fun σ3 H3 ⟨σ3', S3, f3, rs3, rh3, h3⟩ => ⟨m - 1, by omega, σ3', S3, by omega, f3, rs3, rh3, h3⟩, fun v H3 hy => ?_⟩
    obtain ⟨f3, rh3, dv⟩ := ok.yld i x S2 H2 v H3 hx f2 rh2 gd2 hy
    have rs3 := rs2.mono (f3.tle rh2)
    refine lg σ2 σ2' H3 S2 x v _ _ _ rs3 rh3 dv h2 (fun σ4' S4 σ4 H4 f4 rh4 rs4 h4 => ?_) ((d2.go f3).xi rh3 rs3)
    have d4 := d2.go (f3.trans f4)
    have f24 := f2.trans (f3.trans f4)
    refine lb σ4 σ4' H4 S4 _ _ rs4 rh4 h4 ⟨fun σ5' S5 σ5 H5 f5 rh5 rs5 h5 => ⟨σ5', S5, f24.trans f5, rs5, rh5, h5⟩, d4.rt, d4.nx, fun σ5' S5 σ5 H5 f5 rh5 rs5 h5 => ⟨σ5', S5, f24.trans f5, rs5, rh5, h5⟩, d4.ex⟩
  · have hn : xs.drop i = [] := List.drop_eq_nil_of_le (by omega)
    rw [hn] at h2
    have ei : i = xs.length := by omega
    subst ei
    exact .inl ⟨ok.stop S2 H2 f2 rh2 h2.1, d2.nx _ _ _ _ Fr.refl rh2 rs2 h2.2⟩
def rWhile (c : RT) (tb : RSt) : RSt := fun D σ S => ∃ P : Nat → Sg → Hq → Prop, (∃ m, P m σ S) ∧ ∀ m σ S, P m σ S →
  c σ S (fun b S1 => if b = true then tb { D with nx := fun σ' S' => ∃ m', m' < m ∧ P m' σ' S', ct := fun σ' S' => ∃ m', m' < m ∧ P m' σ' S', bk := D.nx } σ S1 else D.nx σ S1) (D.x σ)
theorem es_while {c : Expr} {body : List Stmt} {tc : RT} {tb : RSt} (hp : PassesOwn (model X.prog X.w) X.A X.env X.xe) (hc : ET X W c tc) (hb : EB X W body tb) : ES X W (.While c body [] pos) (rWhile tc tb) := by
  obtain ⟨Tc, pc, lc⟩ := hc.ex
  obtain ⟨Tb, pb, lb⟩ := hb.ex
  refine ⟨_, ps_while hp pc pb, fun σ σ' H S D D' rs rh h d => ?_⟩
  obtain ⟨P, ⟨m0, h0⟩, hP⟩ := h
  refine ⟨fun m σ2 H2 => ∃ σ2' S2, Fr S H S2 H2 ∧ RS X.K H2 σ2' σ2 ∧ RH X.K S2 H2 ∧ P m σ2' S2, ⟨m0, σ', S, Fr.refl, rs, rh, h0⟩, ?_⟩
  rintro m σ2 H2 ⟨σ2', S2, f2, rs2, rh2, h2⟩
  have d2 := d.go f2
  refine lc σ2 σ2' H2 S2 _ _ _ rs2 rh2 (hP m σ2' S2 h2) (fun b S3 H3 f3 rh3 h3 => ?_) (d2.xi rh2 rs2)
  have d3 := d2.go f3
  have rs3 := rs2.mono (f3.tle rh2)
  cases b with
  | false => exact d3.nx _ _ _ _ Fr.refl rh3 rs3 h3
  | true =>
    refine ⟨fun σ4 H4 => ∃ σ4' S4, Fr S H S4 H4 ∧ RS X.K H4 σ4' σ4 ∧ RH X.K S4 H4 ∧ ∃ m', m' < m ∧ P m' σ4' S4, fun σ4 H4 ⟨σ4', S4, f4, rs4, rh4, m', lm, h4⟩ => ⟨m', lm, σ4', S4, f4, rs4, rh4, h4⟩, ?_⟩
    have f23 := f2.trans f3
    exact lb σ2 σ2' H3 S3 _ _ rs3 rh3 h3 ⟨fun σ5' S5 σ5 H5 f5 rh5 rs5 h5 => ⟨σ5', S5, f23.trans f5, rs5, rh5, h5⟩, d3.rt, d3.nx, fun σ5' S5 σ5 H5 f5 rh5 rs5 h5 => ⟨σ5', S5, f23.trans f5, rs5, rh5, h5⟩, d3.ex⟩
/-! sources -/
def seqD (x : D) (S1 : Hq) (R : List D → (Hq → Prop) → Hq → Prop) : Prop := match x with
  | .tup xs => R xs (fun _ => True) S1
  | _ => False
def lstD (x : D) (S1 : Hq) (R : List D → (Hq → Prop) → Hq → Prop) : Prop := match x with
  | .ref a => ∃ xs, LsR S1 a xs ∧ R xs (fun S => LsR S a xs) S1
  | .kl xs => R xs (fun _ => True) S1
  | _ => False
def iSeq (r : RE) : RI := fun σ S R E => r σ S (fun x S1 => seqD x S1 R) E
def iLst (r : RE) : RI := fun σ S R E => r σ S (fun x S1 => lstD x S1 R) E
theorem it_tup {K : PySem.W.Frag} {S1 : Hq} {H1 : Hp} {a : Addr} {xs : List D} {vs : List V} (rh1 : RH K S1 H1) (s : SqT K H1 a vs) (r : DVs K H1 xs vs) : ItOk K S1 H1 (Itt K a) xs (fun _ => True) :=
  ⟨fun S H f rh _ => ⟨vs, (f.tle rh1).t _ _ s, by rw [r.length]; exact Nat.le_refl _⟩,
   fun i x S H hx f rh _ => let ⟨v, hv, _⟩ := r.get hx; ⟨vs, v, (f.tle rh1).t _ _ s, hv⟩,
   fun i x S H v H' hx f rh _ hy => by
    obtain ⟨rfl, hy⟩ := hy
    obtain ⟨w, hw, dw⟩ := r.get hx
    have e := hy vs ((f.tle rh1).t _ _ s)
    rw [hw] at e; cases e
    exact ⟨Fr.refl, rh, DV.mono (f.tle rh1) _ _ dw⟩⟩
theorem it_lst {K : PySem.W.Frag} {S1 : Hq} {H1 : Hp} {a : Addr} {xs : List D} : ItOk K S1 H1 (Itl K a) xs (fun S => LsR S a xs) :=
  ⟨fun S H f rh g => let ⟨vs, s, r⟩ := rh.sql g; ⟨vs, s, by rw [r.length]; exact Nat.le_refl _⟩,
   fun i x S H hx f rh g => let ⟨vs, s, r⟩ := rh.sql g; let ⟨v, hv, _⟩ := r.get hx; ⟨vs, v, s, hv⟩,
   fun i x S H v H' hx f rh g hy => by
    obtain ⟨rfl, hy⟩ := hy
    obtain ⟨vs, s, r⟩ := rh.sql g
    obtain ⟨w, hw, dw⟩ := r.get hx
    have e := hy vs s
    rw [hw] at e; cases e
    exact ⟨Fr.refl, rh, dw⟩⟩
theorem it_kl {K : PySem.W.Frag} {S1 : Hq} {H1 : Hp} {a : Addr} {xs : List D} {vs : List V} (rh1 : RH K S1 H1) (s : SqF K H1 a vs) (r : DVs K H1 xs vs) : ItOk K S1 H1 (Itl K a) xs (fun _ => True) :=
  ⟨fun S H f rh _ => ⟨vs, ((f.tle rh1).f _ _ s).sql, by rw [r.length]; exact Nat.le_refl _⟩,
   fun i x S H hx f rh _ => let ⟨v, hv, _⟩ := r.get hx; ⟨vs, v, ((f.tle rh1).f _ _ s).sql, hv⟩,
   fun i x S H v H' hx f rh _ hy => by
    obtain ⟨rfl, hy⟩ := hy
    obtain ⟨w, hw, dw⟩ := r.get hx
    have e := hy vs ((f.tle rh1).f _ _ s).sql
    rw [hw] at e; cases e
    exact ⟨Fr.refl, rh, DV.mono (f.tle rh1) _ _ dw⟩⟩
theorem ei_seq {tg : Expr} (h : EV X W e r) : EI X W tg e (iSeq r) := by
  obtain ⟨T, p, l⟩ := h.ex
  refine ⟨_, pi_tup p, fun σ σ' H S R R' E' rs rh h q xi => ?_⟩
  refine l σ σ' H S _ _ _ rs rh h (fun x S1 v H1 f1 rh1 dv h1 => ?_) xi
  cases dv with
  | tup s r => exact ⟨_, rfl, ⟨_, s⟩, q _ _ _ _ _ f1 rh1 (it_tup rh1 s r) h1⟩
  | _ => exact h1.elim
theorem ei_lst {tg : Expr} (h : EV X W e r) : EI X W tg e (iLst r) := by
  obtain ⟨T, p, l⟩ := h.ex
  refine ⟨_, pi_list p, fun σ σ' H S R R' E' rs rh h q xi => ?_⟩
  refine l σ σ' H S _ _ _ rs rh h (fun x S1 v H1 f1 rh1 dv h1 => ?_) xi
  cases dv with
  | ref a =>
    obtain ⟨xs, g, h1⟩ := h1
    obtain ⟨vs, s, r⟩ := rh1.sql g
    exact ⟨_, rfl, ⟨_, s⟩, q _ _ _ _ _ f1 rh1 it_lst h1⟩
  | kl s r => exact ⟨_, rfl, ⟨_, s.sql⟩, q _ _ _ _ _ f1 rh1 (it_kl rh1 s r) h1⟩
  | _ => exact h1.elim
def rangeD (lo : Int) (n : Nat) : List D := (List.range n).map fun (i : Nat) => D.int (lo + i)
theorem rangeD_get {lo : Int} {n i : Nat} {x : D} (h : (rangeD lo n)[i]? = some x) : i < n ∧ x = .int (lo + i) := by
  unfold rangeD at h
  rw [List.getElem?_map] at h
  by_cases hi : i < n
  · rw [List.getElem?_range hi] at h; exact ⟨hi, (Option.some.inj h).symm⟩
  · rw [List.getElem?_eq_none (by simpa using hi)] at h; cases h
theorem rangeD_len {lo : Int} {n : Nat} : (rangeD lo n).length = n := by simp [rangeD]
theorem it_rng {K : PySem.W.Frag} {S1 : Hq} {H1 : Hp} {lo : Int} {n : Nat} : ItOk K S1 H1 (Itr lo n) (rangeD lo n) (fun _ => True) :=
  ⟨fun S H f rh _ => by rw [rangeD_len]; exact Nat.le_refl _, fun i x S H hx f rh _ => (rangeD_get hx).1, fun i x S H v H' hx f rh _ hy => by
    obtain ⟨rfl, rfl⟩ := hy
    rw [(rangeD_get hx).2]
    exact ⟨Fr.refl, rh, .int _⟩⟩
def rngD (ds : List D) (S1 : Hq) (R : List D → (Hq → Prop) → Hq → Prop) : Prop := match ds with
  | [.int j] => (-(2 ^ 62) ≤ j ∧ j < 2 ^ 62) ∧ R (rangeD 0 j.toNat) (fun _ => True) S1
  | _ => False
def rng2D (ds : List D) (S1 : Hq) (R : List D → (Hq → Prop) → Hq → Prop) : Prop := match ds with
  | [.int i, .int j] => (-(2 ^ 62) ≤ i ∧ i < 2 ^ 62 ∧ -(2 ^ 62) ≤ j ∧ j < 2 ^ 62) ∧ R (rangeD i (j - i).toNat) (fun _ => True) S1
  | _ => False
def iRg1 (ra : RA) : RI := fun σ S R E => ra σ S (fun ds S1 => rngD ds S1 R) E
def iRg2 (ra : RA) : RI := fun σ S R E => ra σ S (fun ds S1 => rng2D ds S1 R) E
theorem ei_rg1 {tg a : Expr} {ra : RA} {p : Pos} (hm : X.mg "range" = none) (ha : EA X W [a] ra) (hg : Gl X "range" := by rfl) (hs : starEach [a] X.env = [(false, eval a X.env)] := by rfl) : EI X W tg (.Call (.Name "range" p) [a] [] pos) (iRg1 ra) := by
  obtain ⟨T, pp, l⟩ := ha.ex
  refine ⟨_, pi_range1 hg hm pp hs, fun σ σ' H S R R' E' rs rh h q xi => ?_⟩
  refine l σ σ' H S _ _ _ rs rh h (fun ds S1 v H1 f1 rh1 dv h1 => ?_) xi
  match ds, dv, h1 with
  | [.int j], .cons (.int _) .nil, h1 => exact ⟨j, rfl, h1.1.1, h1.1.2, q _ _ _ _ _ f1 rh1 it_rng h1.2⟩
theorem ei_rg2 {tg a b : Expr} {ra : RA} {p : Pos} (hm : X.mg "range" = none) (ha : EA X W [a, b] ra) (hg : Gl X "range" := by rfl) (hs : starEach [a, b] X.env = [(false, eval a X.env), (false, eval b X.env)] := by rfl) (hs2 : starEach [b] X.env = [(false, eval b X.env)] := by rfl) :
    EI X W tg (.Call (.Name "range" p) [a, b] [] pos) (iRg2 ra) := by
  obtain ⟨T, pp, l⟩ := ha.ex
  refine ⟨_, pi_range2 hg hm pp hs hs2, fun σ σ' H S R R' E' rs rh h q xi => ?_⟩
  refine l σ σ' H S _ _ _ rs rh h (fun ds S1 v H1 f1 rh1 dv h1 => ?_) xi
  match ds, dv, h1 with
  | [.int i, .int j], .cons (.int _) (.cons (.int _) .nil), h1 => exact ⟨i, j, rfl, h1.1, q _ _ _ _ _ f1 rh1 it_rng h1.2⟩
/-- zip of two -/
def zipD : List D → List D → List D
  | x :: xs, y :: ys => .tup [x, y] :: zipD xs ys
  | _, _ => []
theorem zipD_get : ∀ {xs ys : List D} {i : Nat} {z : D}, (zipD xs ys)[i]? = some z → ∃ x y, xs[i]? = some x ∧ ys[i]? = some y ∧ z = .tup [x, y]
  | x :: xs, y :: ys, 0, z, h => ⟨x, y, rfl, rfl, (Option.some.inj h).symm⟩
  | x :: xs, y :: ys, i + 1, z, h => by
    obtain ⟨a, b, p, q, r⟩ := zipD_get (xs := xs) (ys := ys) (i := i) (by simpa [zipD] using h)
    exact ⟨a, b, by simpa using p, by simpa using q, r⟩
  | [], _, _, _, h => by simp [zipD] at h
  | _ :: _, [], _, _, h => by simp [zipD] at h
theorem zipD_len : ∀ {xs ys : List D}, (zipD xs ys).length = min xs.length ys.length
  | x :: xs, y :: ys => by simp only [zipD, List.length_cons, zipD_len]; omega
  | [], _ => by simp [zipD]
  | _ :: _, [] => by simp [zipD]
theorem it_zipT {K : PySem.W.Frag} {S1 : Hq} {H1 : Hp} {a b : Addr} {xs ys : List D} {vs us : List V} (rh1 : RH K S1 H1) (s : SqT K H1 a vs) (r : DVs K H1 xs vs) (s2 : SqT K H1 b us) (r2 : DVs K H1 ys us) : ItOk K S1 H1 (RZ.ItzT K a b) (zipD xs ys) (fun _ => True) := by
  refine ⟨fun S H f rh _ => ⟨vs, us, (f.tle rh1).t _ _ s, (f.tle rh1).t _ _ s2, by rw [zipD_len, ← r.length, ← r2.length]; omega⟩, fun i x S H hx f rh _ => ?_, fun i x S H v H' hx f rh _ hy => ?_⟩
  · obtain ⟨x1, y1, h1, h2, _⟩ := zipD_get hx
    obtain ⟨v, hv, _⟩ := r.get h1
    obtain ⟨u, hu, _⟩ := r2.get h2
    exact ⟨vs, us, v, u, (f.tle rh1).t _ _ s, (f.tle rh1).t _ _ s2, hv, hu⟩
  · obtain ⟨x1, y1, h1, h2, rfl⟩ := zipD_get hx
    obtain ⟨v', hv, dv⟩ := r.get h1
    obtain ⟨u', hu, du⟩ := r2.get h2
    obtain ⟨T, x2, y2, rfl, hT, rfl, e1, e2⟩ := hy
    have e1 := e1 vs ((f.tle rh1).t _ _ s)
    have e2 := e2 us ((f.tle rh1).t _ _ s2)
    rw [hv] at e1; cases e1
    rw [hu] at e2; cases e2
    have t := (f.tle rh1)
    have f' := Fr.new (o := .tup [v', u']) rh hT
    exact ⟨f', rh.new hT, .tup (.inl (.inl upd_same)) (.cons (DV.mono (f'.tle rh) _ _ (DV.mono t _ _ dv)) (.cons (DV.mono (f'.tle rh) _ _ (DV.mono t _ _ du)) .nil))⟩
theorem it_zipL {K : PySem.W.Frag} {S1 : Hq} {H1 : Hp} {a b : Addr} {xs ys : List D} : ItOk K S1 H1 (Itz K a b) (zipD xs ys) (fun S => LsR S a xs ∧ LsR S b ys) := by
  refine ⟨fun S H f rh g => ?_, fun i x S H hx f rh g => ?_, fun i x S H v H' hx f rh g hy => ?_⟩
  · obtain ⟨vs, s, r⟩ := rh.sql g.1
    obtain ⟨us, s2, r2⟩ := rh.sql g.2
    exact ⟨vs, us, s, s2, by rw [zipD_len, ← r.length, ← r2.length]; omega⟩
  · obtain ⟨vs, s, r⟩ := rh.sql g.1
    obtain ⟨us, s2, r2⟩ := rh.sql g.2
    obtain ⟨x1, y1, h1, h2, _⟩ := zipD_get hx
    obtain ⟨v, hv, _⟩ := r.get h1
    obtain ⟨u, hu, _⟩ := r2.get h2
    exact ⟨vs, us, v, u, s, s2, hv, hu⟩
  · obtain ⟨vs, s, r⟩ := rh.sql g.1
    obtain ⟨us, s2, r2⟩ := rh.sql g.2
    obtain ⟨x1, y1, h1, h2, rfl⟩ := zipD_get hx
    obtain ⟨v', hv, dv⟩ := r.get h1
    obtain ⟨u', hu, du⟩ := r2.get h2
    obtain ⟨T, x2, y2, rfl, hT, rfl, e1, e2⟩ := hy
    have e1 := e1 vs s
    have e2 := e2 us s2
    rw [hv] at e1; cases e1
    rw [hu] at e2; cases e2
    have f' := Fr.new (o := .tup [v', u']) rh hT
    exact ⟨f', rh.new hT, .tup (.inl (.inl upd_same)) (.cons (DV.mono (f'.tle rh) _ _ dv) (.cons (DV.mono (f'.tle rh) _ _ du) .nil))⟩
end
end Y
namespace Y
open PySem PySem.Spec PyProof.Rows L2
def zpD (ds : List D) (S1 : Hq) (R : List D → (Hq → Prop) → Hq → Prop) : Prop := match ds with
  | [.tup xs, .tup ys] => R (zipD xs ys) (fun _ => True) S1
  | [.ref a, .ref b] => ∃ xs ys, LsR S1 a xs ∧ LsR S1 b ys ∧ R (zipD xs ys) (fun S => LsR S a xs ∧ LsR S b ys) S1
  | _ => False
def iZp (ra : RA) : RI := fun σ S R E => ra σ S (fun ds S1 => zpD ds S1 R) E
section
variable {X : Cx} {W : WX} {e e2 : Expr} {r : RE} {pos : Pos}
theorem ei_zip {ra : RA} {p tpos : Pos} {elts : List Expr} {kk : Nat} (hm : X.mg "zip" = none) (ha : EA X W [e, e2] ra) (hg : Gl X "zip" := by rfl)
    (hs : starEach [e, e2] X.env = (false, eval e X.env) :: starEach [e2] X.env := by rfl) (hs2 : (backTo pos (starEach [e2] X.env)).any (·.1) = false := by rfl) :
    EI X W (.Tuple elts kk tpos) (.Call (.Name "zip" p) [e, e2] [] pos) (iZp ra) := by
  obtain ⟨T, pp, l⟩ := ha.ex
  refine ⟨_, RZ.pi_zipA hg hm pp hs hs2, fun σ σ' H S R R' E' rs rh h q xi => ?_⟩
  refine l σ σ' H S _ _ _ rs rh h (fun ds S1 v H1 f1 rh1 dv h1 => ?_) xi
  match ds, dv, h1 with
  | [.tup xs, .tup ys], .cons (.tup s r) (.cons (.tup s2 r2) .nil), h1 => exact ⟨_, _, _, _, rfl, .inr ⟨s, s2, q _ _ _ _ _ f1 rh1 (it_zipT rh1 s r s2 r2) h1⟩⟩
  | [.ref a, .ref b], .cons (.ref _) (.cons (.ref _) .nil), h1 =>
    obtain ⟨xs, ys, g, g2, h1⟩ := h1
    obtain ⟨vs, s, r⟩ := rh1.sql g
    obtain ⟨us, s2, r2⟩ := rh1.sql g2
    exact ⟨_, _, _, _, rfl, .inl ⟨s, s2, q _ _ _ _ _ f1 rh1 it_zipL h1⟩⟩

/-! ### comprehensions -/
def wipeD (σ : Sg) : List Nat → Sg
  | [] => σ
  | v :: vs => (wipeD σ vs).set v none
theorem RS.wipe {K : PySem.W.Frag} {H : Hp} {σ' : Sg} {σ : L2.St} (x : RS K H σ' σ) : ∀ vs : List Nat, RS K H (wipeD σ' vs) (L2.wipe σ vs)
  | [] => x
  | v :: vs => by
    have ih := RS.wipe x vs
    refine ⟨by simp [wipeD, L2.wipe, ih.len], fun i d e => ?_⟩
    unfold wipeD at e
    unfold L2.wipe
    by_cases c : v = i
    · subst c
      by_cases hi : v < (wipeD σ' vs).length
      · rw [List.getElem?_set_self hi] at e; cases e
      · rw [List.getElem?_eq_none (by simpa using hi)] at e; cases e
    · rw [List.getElem?_set_ne c] at e ⊢
      exact ih.get i d e
/-- a test ahead of an element -/
structure EP1 (X : Cx) (W : WX) (ifs : List Expr) (t : RT) : Prop where
  ex : ∃ T, PTs X ifs T ∧ ∀ (σ : L2.St) (σ' : Sg) (H : Hp) (S : Hq) (Q : Bool → Hp → Prop) (Q' : Bool → Hq → Prop) (E' : Xw), RS X.K H σ' σ → RH X.K S H → t σ' S Q' E' → QT X.K S H Q' Q → XI X.K S H E' (wx W σ) → T σ H Q
def rYes : RT := fun _ S Q _ => Q true S
theorem ep_nil : EP1 X W [] rYes := ⟨_, pts_nil, fun σ σ' H S Q Q' E' rs rh h q xi => q _ _ _ Fr.refl rh h⟩
theorem ep_one {c : Expr} {t : RT} (h : ET X W c t) : EP1 X W [c] t := let ⟨T, p, l⟩ := h.ex; ⟨T, pts_one p, l⟩
theorem EP1.pe {ifs : List Expr} {t : RT} (h : EP1 X W ifs t) : PTs X ifs (dnT X.K W t) := by
  obtain ⟨T, p, l⟩ := h.ex
  exact ⟨fun pins s σ H Q I ⟨σ', S, Q', E', a, b, c, d, x⟩ => p.run pins s σ H Q I (l σ σ' H S Q Q' E' a b c d x)⟩
abbrev W0 : WX := fun _ _ _ _ => False
/-- the elements, one by one; vs: the slots of the comprehension's own names -/
def lcP (gd : Hq → Prop) (g : RG) (tt : RT) (te : RE) (vs : List Nat) (σ : Sg) (Q : List D → Hq → Prop) : List D → List D → Hq → Prop
  | [], acc, S => gd S ∧ Q acc S
  | x :: r, acc, S => gd S ∧ g x (wipeD σ vs) S (fun σ2 S2 => tt σ2 S2 (fun b S3 => if b = true then te σ2 S3 (fun y S4 => acc.length < 1000000 ∧ lcP gd g tt te vs σ Q r (acc ++ [y]) S4) NoX else lcP gd g tt te vs σ Q r acc S3) NoX) NoX
def rLc (ri : RI) (g : RG) (tt : RT) (te : RE) (vs : List Nat) : RE := fun σ S Q E => ri σ S (fun xs gd S1 => lcP gd g tt te vs σ (fun acc S2 => ∀ p, S2 p = none → Q (.ref p) (up S2 p (.lst acc))) xs [] S1) E
/-- targets that keep to their slots -/
structure Keeps (T : TG) (g : RG) (vs : List Nat) (K : PySem.W.Frag) : Prop where
  to : ∀ (σ : L2.St) (σ' : Sg) (H : Hp) (S : Hq) (d : D) (v : V) (N : L2.St → Hp → Prop) (N' : Sg → Hq → Prop), RS K H σ' (L2.wipe σ vs) → RH K S H → DV K H d v → g d σ' S N' NoX → (∀ σ2' σ2, L2.wipe σ2 vs = L2.wipe σ vs → RS K H σ2' σ2 → N' σ2' S → N σ2 H) → T v (L2.wipe σ vs) H N
theorem wipe1 (σ : L2.St) (i : Nat) (x : Option V) : (((σ.set i none).set i x).set i none : L2.St) = σ.set i none := by
  rw [List.set_set, List.set_set]
theorem keeps_nm {i : Nat} {K : PySem.W.Frag} : Keeps (gName i) (gNm i) [i] K :=
  ⟨fun σ σ' H S d v N N' rs rh dv h n => n _ _ (wipe1 σ i _) (rs.set dv i) h⟩
theorem lc_run {K : PySem.W.Frag} {W : WX} {J : It} {gd : Hq → Prop} {T : TG} {g : RG} {tt : RT} {te : RE} {vs : List Nat} {σ : L2.St} {σ' : Sg} {S1 : Hq} {H1 : Hp} {xs : List D} {Q : VK} {Q' : Qv} (kp : Keeps T g vs K)
    (rs : RS K H1 σ' σ) (rh : RH K S1 H1) (ok : ItOk K S1 H1 J xs gd) (q : QI K S1 H1 Q' Q) (h : lcP gd g tt te vs σ' (fun acc S2 => ∀ p, S2 p = none → Q' (.ref p) (up S2 p (.lst acc))) xs [] S1) :
    ∀ Dd, H1 Dd = none → ∃ W : Nat → Nat → Hp → Prop, (∃ m, W 0 m (upd H1 Dd (.lst []))) ∧ ∀ i m H, W i m H →
      (J.stop i H ∧ Q (.ref Dd) H) ∨ (J.go i H ∧ ∃ Nx : Hp → Prop, (∀ H', Nx H' → ∃ m', m' < m ∧ W (i + 1) m' H') ∧ ∀ x H', J.yld i H x H' → T x (L2.wipe σ vs) H' fun σ2 H2 => L2.wipe σ2 vs = L2.wipe σ vs ∧ dnT K W0 tt σ2 H2 fun b H3 =>
        if b = true then dnE K W0 te σ2 H3 fun y H4 => ∃ acc, H4 Dd = some (.lst acc) ∧ acc.length < sizeLine ∧ Nx (upd H4 Dd (.lst (acc ++ [y]))) else Nx H3) := by
  intro Dd hD
  have fD : Fr S1 H1 S1 (upd H1 Dd (.lst [])) := Fr.new rh hD
  refine ⟨fun i m H => ∃ S acc acc', i + m = xs.length ∧ Fr S1 H1 S H ∧ RH K S H ∧ H Dd = some (.lst acc) ∧ S Dd = none ∧ DVs K H acc' acc ∧ lcP gd g tt te vs σ' (fun acc S2 => ∀ p, S2 p = none → Q' (.ref p) (up S2 p (.lst acc))) (xs.drop i) acc' S,
    ⟨xs.length, S1, [], [], by omega, fD, rh.new hD, upd_same, rh.fresh hD, .nil, by simpa using h⟩, ?_⟩
  rintro i m H ⟨S, acc, acc', em, f, rh2, eD, nD, da, h⟩
  by_cases hi : i < xs.length
  · obtain ⟨x, hx⟩ : ∃ x, xs[i]? = some x := ⟨_, List.getElem?_eq_getElem hi⟩
    have hd : xs.drop i = x :: xs.drop (i + 1) := by
      rw [List.drop_eq_getElem_cons hi]
      rw [List.getElem?_eq_getElem hi] at hx
      rw [Option.some.inj hx]
    rw [hd] at h
    obtain ⟨g2, h⟩ := h
    refine .inr ⟨ok.go i x S H hx f rh2 g2, fun H => ∃ S acc acc', Fr S1 H1 S H ∧ RH K S H ∧ H Dd = some (.lst acc) ∧ S Dd = none ∧ DVs K H acc' acc ∧ lcP gd g tt te vs σ' (fun acc S2 => ∀ p, S2 p = none → Q' (.ref p) (up S2 p (.lst acc))) (xs.drop (i + 1)) acc' S,
      fun H ⟨S, acc, acc', a, b, c, d, e, f⟩ => ⟨m - 1, by omega, S, acc, acc', by omega, a, b, c, d, e, f⟩, fun v H3 hy => ?_⟩
    obtain ⟨f3, rh3, dv⟩ := ok.yld i x S H v H3 hx f rh2 g2 hy
    have f03 := f.trans f3
    obtain ⟨eD3, nD3⟩ := f3 Dd _ eD nD
    refine kp.to σ (wipeD σ' vs) H3 S x v _ _ ((rs.mono (f03.tle rh)).wipe vs) rh3 dv h fun σ2' σ2 ew rs2 h2 => ⟨ew, σ2', S, _, NoX, rs2, rh3, h2, fun b S4 H4 f4 rh4 h4 => ?_, XI.no⟩
    have f04 := f03.trans f4
    obtain ⟨eD4, nD4⟩ := f4 Dd _ eD3 nD3
    have da4 := DVs.mono ((f3.trans f4).tle rh2) _ _ da
    cases b with
    | false => exact ⟨S4, acc, acc', f04, rh4, eD4, nD4, da4, h4⟩
    | true =>
      refine ⟨σ2', S4, _, NoX, rs2.mono (f4.tle rh3), rh4, h4, fun y S5 u H5 f5 rh5 dy h5 => ?_, XI.no⟩
      obtain ⟨eD5, nD5⟩ := f5 Dd _ eD4 nD4
      have da5 := DVs.mono (f5.tle rh4) _ _ da4
      refine ⟨acc, eD5, by rw [← da5.length]; exact big_lt h5.1, S5, acc ++ [u], acc' ++ [y], ?_, ?_, upd_same, nD5, ?_, h5.2⟩
      · intro b o e n
        obtain ⟨e', n'⟩ := (f04.trans f5) b o e n
        have hb : b ≠ Dd := fun z => by rw [z, hD] at e; cases e
        exact ⟨by rw [upd_ne hb]; exact e', n'⟩
      all_goals
        have t : Tle K H5 (upd H5 Dd (.lst (acc ++ [u]))) := by
          refine ⟨fun a xs hq => ?_, fun a xs hq => ?_⟩
          · rcases hq with (hq | ⟨o, hq⟩) | hq
            · exact .inl (.inl (by rw [upd_ne (fun z => by rw [z, eD5] at hq; cases hq)]; exact hq))
            · exact .inl (.inr ⟨o, by rw [upd_ne (fun z => by rw [z, eD5] at hq; cases hq)]; exact hq⟩)
            · exact .inr hq
          · rcases hq with ⟨o, hq⟩ | hq
            · exact .inl ⟨o, by rw [upd_ne (fun z => by rw [z, eD5] at hq; cases hq)]; exact hq⟩
            · exact .inr hq
      · intro b o e
        have hb : b ≠ Dd := fun z => by rw [z, nD5] at e; cases e
        exact (rh5 b o e).stay t (upd_ne hb)
      · exact DVs.mono t _ _ (da5.app (.cons dy .nil))
  · have hn : xs.drop i = [] := List.drop_eq_nil_of_le (by omega)
    rw [hn] at h
    have ei : i = xs.length := by omega
    subst ei
    refine .inl ⟨ok.stop S H f rh2 h.1, ?_⟩
    -- the list is tracked from now on
    have r2 : RH K (up S Dd (.lst acc')) H := fun b o e => by
      by_cases hb : b = Dd
      · subst hb; rw [up_same] at e; cases e; exact ⟨acc, eD, da⟩
      · rw [up_ne hb] at e; exact rh2 b o e
    refine q (.ref Dd) _ _ _ (fun b o e n => ?_) r2 (.ref Dd) (h.2 Dd nD)
    obtain ⟨e', n'⟩ := f b o e n
    have hb : b ≠ Dd := fun z => by rw [z, hD] at e; cases e
    exact ⟨e', by rw [up_ne hb]; exact n'⟩
theorem ev_lc (i : Nat) {x : Str} {xp : Pos} {elt it : Expr} {ifs : List Expr} {scope : Scope} {ri : RI} {tt : RT} {te : RE} (hc : X.calm = true) (hN : X.N.Nodup) (hi : EI X W (.Name x xp) it ri) (ok : BlkOk X.N X.env.scope scope [(x, i)])
    (hg : ∀ (s : Shared) (H : Hp) (C : Addr) (cl : List (Str × Addr)) (fp : List Addr), PG (X.blk s H scope (compEnvC scope cl C X.env) fp) (.Name x xp) (gName i))
    (ht : ∀ (s : Shared) (H : Hp) (C : Addr) (cl : List (Str × Addr)) (fp : List Addr), EP1 (X.blk s H scope (compEnvC scope cl C X.env) fp) W0 ifs tt)
    (he : ∀ (s : Shared) (H : Hp) (C : Addr) (cl : List (Str × Addr)) (fp : List Addr), EV (X.blk s H scope (compEnvC scope cl C X.env) fp) W0 elt te) (hs : ∀ x, foldedSetIterable it X.env x = pure x := by intro _; rfl) :
    EV X W (.ListComp elt [⟨.Name x xp, it, ifs, 0⟩] scope pos) (rLc ri (gNm i) tt te [i]) := by
  obtain ⟨wi, pi, li⟩ := hi.ex
  refine ⟨_, pe_lc (tt := dnT X.K W0 tt) (te := dnE X.K W0 te) hc hN pi ok hg (fun s H C cl fp => (ht s H C cl fp).pe) (fun s H C cl fp => (he s H C cl fp).pe) hs, fun σ σ' H S Q Q' E' rs rh h q xi => ?_⟩
  exact li σ σ' H S _ _ _ rs rh h (fun J xs gd S1 H1 f1 rh1 ok h1 => lc_run (W := W) keeps_nm (rs.mono (f1.tle rh)) rh1 ok (q.go f1) h1) xi
theorem es_setLc (j i : Nat) {y : Str} {py spos : Pos} {x : Str} {xp : Pos} {elt it : Expr} {ifs : List Expr} {scope : Scope} {ri : RI} {tt : RT} {te : RE} (hc : X.calm = true) (hN : X.N.Nodup) (hi : EI X W (.Name x xp) it ri) (ok : BlkOk X.N X.env.scope scope [(x, i)])
    (hg : ∀ (s : Shared) (H : Hp) (C : Addr) (cl : List (Str × Addr)) (fp : List Addr), PG (X.blk s H scope (compEnvC scope cl C X.env) fp) (.Name x xp) (gName i))
    (ht : ∀ (s : Shared) (H : Hp) (C : Addr) (cl : List (Str × Addr)) (fp : List Addr), EP1 (X.blk s H scope (compEnvC scope cl C X.env) fp) W0 ifs tt)
    (he : ∀ (s : Shared) (H : Hp) (C : Addr) (cl : List (Str × Addr)) (fp : List Addr), EV (X.blk s H scope (compEnvC scope cl C X.env) fp) W0 elt te)
    (hsw : swapsWith (.ListComp elt [⟨.Name x xp, it, ifs, 0⟩] scope pos) (some (.Name y py)) spos.line X.env = pure true) (hy : X.N[j]? = some y := by rfl) (hyl : X.env.scope.names.lookup y = some .local := by rfl) (hs : ∀ x, foldedSetIterable it X.env x = pure x := by intro _; rfl) :
    ES X W (.Assign [.Name y py] (.ListComp elt [⟨.Name x xp, it, ifs, 0⟩] scope pos) spos) (rSet (rLc ri (gNm i) tt te [i]) (gNm j)) := by
  obtain ⟨wi, pi, li⟩ := hi.ex
  refine ⟨_, ps_setLc (tt := dnT X.K W0 tt) (te := dnE X.K W0 te) hc hN hy hyl hsw pi ok hg (fun s H C cl fp => (ht s H C cl fp).pe) (fun s H C cl fp => (he s H C cl fp).pe) hs, fun σ σ' H S D D' rs rh h d => ?_⟩
  refine li σ σ' H S _ _ _ rs rh h (fun J xs gd S1 H1 f1 rh1 ok h1 => ?_) (d.xi rh rs)
  refine lc_run (W := W) (Q := fun v H1 => gName j v σ H1 D.nx) (Q' := fun d S1 => gNm j d σ' S1 D'.nx (D'.x σ')) keeps_nm (rs.mono (f1.tle rh)) rh1 ok ?_ h1
  intro dd S2 v H2 f2 rh2 dv h2
  exact d.nx _ _ _ _ (f1.trans f2) rh2 ((rs.mono ((f1.trans f2).tle rh)).set dv j) h2
end

/-! ### a def -/
def start' (n : Nat) (ds : List D) : Sg := ds.map some ++ List.replicate (n - ds.length) none
section
variable {P : Program} {w : World} {K : PySem.W.Frag} {mg : Str → Option Value} {base : Heap}
theorem rs_start {H : Hp} {ds : List D} {vs : List V} (N : List Str) (r : DVs K H ds vs) : RS K H (start' N.length ds) (L2.start N vs) := by
  refine ⟨by simp [start', L2.start, r.length], fun i d e => ?_⟩
  unfold start' at e
  unfold L2.start
  by_cases hi : i < ds.length
  · rw [List.getElem?_append_left (by simpa using hi), List.getElem?_map] at e
    cases g : ds[i]? with
    | none => rw [g] at e; cases e
    | some d' =>
      rw [g] at e
      cases e
      obtain ⟨v, hv, dv⟩ := r.get g
      exact ⟨v, by rw [List.getElem?_append_left (by rw [List.length_map, ← r.length]; exact hi), List.getElem?_map, hv]; rfl, dv⟩
  · rw [List.getElem?_append_right (by simpa using hi)] at e
    have := List.mem_of_getElem? e
    rw [List.mem_replicate] at this
    cases this.2
theorem fn_ok {x qual : Str} {st : Stmt} {f : Addr} {fd : FuncData} {N ps : List Str} {k : Nat} {sp : Sq} {t : RSt} (F : Fun K x qual st f fd) (Sc : FnScope N ps (defScope st)) (len : ∀ ds S Q E, sp ds S Q E → ds.length = ps.length)
    (hb : ∀ (cdv : Value) (A : Around) (outer : List Env) (s : Shared) (H : Hp) (E : XK), Room k (A.deeper (envOfC qual (defScope st) s.heap.objs.size f cdv)) → EB (cxOf CX0 P w K mg base N qual (defScope st) f cdv A outer s H E).nox W0 (defBody st) t)
    (pure' : ∀ ds S Q, sp ds S Q NoX → t { nx := fun _ S => Q .non S, rt := Q } (start' N.length ds) S)
    (nox : ∀ ds S Q E, sp ds S Q E → sp ds S Q NoX) : FnOk P w K mg base CX0 (k + 1) f fd ps (dn K sp) := by
  refine F.ok Sc (fun vs H Q E h => ?_) (fun cdv A outer s H vs Q E hr h => ?_)
  · obtain ⟨ds, S, Q', E', dv, _, h, _⟩ := h
    rw [← dv.length]
    exact len _ _ _ _ h
  · obtain ⟨ds, S, Q', E', dv, rh, h, q, xi⟩ := h
    obtain ⟨T, p, l⟩ := (hb cdv A outer s H E hr).ex
    refine ⟨T, p, ?_⟩
    refine l _ (start' N.length ds) H S _ { nx := fun _ S => Q' .non S, rt := Q' } (rs_start N dv) rh (pure' _ _ _ (nox _ _ _ _ h)) ⟨fun σ' S' σ H' f rh' rs h' => ?_, q, fun _ _ _ _ _ _ _ z => z.elim, fun _ _ _ _ _ _ _ z => z.elim, fun _ _ _ _ _ _ _ _ _ _ _ _ _ _ z => z.elim⟩
    exact q _ _ _ _ f rh' .non h'
end
end Y
namespace Y
open PySem PySem.Spec PyProof.Rows L2
/-! ### what an operator gives where its sides are known -/
section
variable {i j : Int} {a b : Str} {xs ys : List D} {p q : Addr} {S : Hq} {Q : Qv} {c d : Bool} {x y : D} {C : Int → Int → Prop} {g : Int → Int → D} {R : List D → (Hq → Prop) → Hq → Prop}
theorem q_asB {f : Bool → Prop} : asB (.bl c) f = f c := rfl
theorem q_asI {f : Int → Prop} : asI (.int i) f = f i := rfl
theorem q_add : addD (.int i) (.int j) S Q = Q (.int (i + j)) S := rfl
theorem q_addS : addD (.str a) (.str b) S Q = (a.length + b.length ≤ 1000000 ∧ Q (.str (a ++ b)) S) := rfl
theorem q_addT : addD (.tup xs) (.tup ys) S Q = (xs.length + ys.length ≤ 1000000 ∧ Q (.tup (xs ++ ys)) S) := rfl
theorem q_addL : addD (.ref p) (.ref q) S Q = (∃ xs ys, S p = some (.lst xs) ∧ S q = some (.lst ys) ∧ xs.length + ys.length ≤ 1000000 ∧ ∀ p, S p = none → Q (.ref p) (up S p (.lst (xs ++ ys)))) := rfl
theorem q_int : intD C g (.int i) (.int j) S Q = (C i j ∧ Q (g i j) S) := rfl
theorem q_sub : subD (.int i) (.int j) S Q = Q (.int (i - j)) S := rfl
theorem q_mul : mulD (.int i) (.int j) S Q = (CMul' i j ∧ Q (.int (i * j)) S) := rfl
theorem q_fdiv : fdivD (.int i) (.int j) S Q = (CDiv' i j ∧ Q (.int (i / j)) S) := rfl
theorem q_mod : modD (.int i) (.int j) S Q = (0 < j ∧ Q (.int (i % j)) S) := rfl
theorem q_pow : powD (.int i) (.int j) S Q = (CPow' i j ∧ Q (.int (i ^ j.toNat)) S) := rfl
theorem q_neg : negD (.int i) S Q = Q (.int (-i)) S := rfl
theorem q_le : leD (.int i) (.int j) S Q = Q (.bl (decide (i ≤ j))) S := rfl
theorem q_ge : geD (.int i) (.int j) S Q = Q (.bl (decide (j ≤ i))) S := rfl
theorem q_gt : gtD (.int i) (.int j) S Q = Q (.bl (decide (j < i))) S := rfl
theorem q_lt : ltD (.int i) (.int j) S Q = Q (.bl (decide (i < j))) S := rfl
theorem q_ltT : ltD (.tup xs) (.tup ys) S Q = (∃ ns ms, xs = ns.map D.int ∧ ys = ms.map D.int ∧ Q (.bl (HT.lexLt ns ms)) S) := rfl
theorem q_isN : isD x .non S Q = Q (.bl (isN x)) S := rfl
theorem q_isB : isD (.bl c) (.bl d) S Q = Q (.bl (decide (c = d))) S := rfl
theorem q_isBi : isD (.int i) (.bl d) S Q = Q (.bl false) S := rfl
theorem q_isBs : isD (.str a) (.bl d) S Q = Q (.bl false) S := rfl
theorem q_isBn : isD .non (.bl d) S Q = Q (.bl false) S := rfl
theorem q_isBt : isD (.tup xs) (.bl d) S Q = Q (.bl false) S := rfl
theorem q_isnt : isntD x .non S Q = Q (.bl (!isN x)) S := rfl
theorem n_non : isN .non = true := rfl
theorem n_bl : isN (.bl c) = false := rfl
theorem n_int : isN (.int i) = false := rfl
theorem n_str : isN (.str a) = false := rfl
theorem n_tup : isN (.tup xs) = false := rfl
theorem n_ref : isN (.ref p) = false := rfl
theorem q_eq {f : Bool → Bool} : eqD f (.int i) (.int j) S Q = Q (.bl (f (decide (i = j)))) S := rfl
theorem q_eqS {f : Bool → Bool} : eqD f (.str a) (.str b) S Q = Q (.bl (f (decide (a = b)))) S := rfl
theorem q_eqB {f : Bool → Bool} : eqD f (.bl c) (.bl d) S Q = Q (.bl (f (decide (c = d)))) S := rfl
theorem q_eqT {f : Bool → Bool} : eqD f (.tup xs) (.tup ys) S Q = (okE (.tup xs) ∧ okE (.tup ys) ∧ Q (.bl (f (PyData.eqv (pd (.tup xs)) (pd (.tup ys))))) S) := rfl
theorem q_ixT : ixD (.tup xs) (.int i) S Q = (∃ d, atI xs i = some d ∧ Q d S) := rfl
theorem q_ixK : ixD (.kl xs) (.int i) S Q = (∃ d, atI xs i = some d ∧ Q d S) := rfl
theorem q_ixL : ixD (.ref p) (.int i) S Q = (∃ xs d, S p = some (.lst xs) ∧ atI xs i = some d ∧ Q d S) := rfl
theorem q_ixS : ixD (.str a) (.int i) S Q = (∃ c, a.length ≤ 1000000 ∧ atI a.cps.toList i = some c ∧ Q (.str ⟨#[c]⟩) S) := rfl
theorem q_slT {l u : Option Int} : slD (.tup xs) l u S Q = Q (.tup (cutL xs l u)) S := rfl
theorem q_slL {l u : Option Int} : slD (.ref p) l u S Q = (∃ xs, S p = some (.lst xs) ∧ ∀ p, S p = none → Q (.ref p) (up S p (.lst (cutL xs l u)))) := rfl
theorem q_slS {l u : Option Int} : slD (.str a) l u S Q = (a.length ≤ 1000000 ∧ Q (.str (cutS a l u)) S) := rfl
theorem q_set {N : Hq → Prop} : setD (.ref p) (.int i) x S N = (∃ xs j, S p = some (.lst xs) ∧ ixN xs.length i = some j ∧ N (up S p (.lst (xs.set j x)))) := rfl
theorem q_lenT : lenD [.tup xs] S Q = Q (.int xs.length) S := rfl
theorem q_lenK : lenD [.kl xs] S Q = Q (.int xs.length) S := rfl
theorem q_lenS : lenD [.str a] S Q = (a.length ≤ 1000000 ∧ Q (.int a.length) S) := rfl
theorem q_lenL : lenD [.ref p] S Q = (∃ xs, S p = some (.lst xs) ∧ Q (.int xs.length) S) := rfl
theorem q_abs : absD [.int i] S Q = Q (.int (if i < 0 then -i else i)) S := rfl
theorem q_intF : intF [.int i] S Q = Q (.int i) S := rfl
theorem q_max : maxD [.int i, .int j] S Q = Q (.int (if j > i then j else i)) S := rfl
theorem q_min : minD [.int i, .int j] S Q = Q (.int (if j < i then j else i)) S := rfl
theorem q_tupT : tupF [.tup xs] S Q = Q (.tup xs) S := rfl
theorem q_tupL : tupF [.ref p] S Q = (∃ xs, S p = some (.lst xs) ∧ Q (.tup xs) S) := rfl
theorem q_lstT : lstF [.tup xs] S Q = (∀ p, S p = none → Q (.ref p) (up S p (.lst xs))) := rfl
theorem q_lstL : lstF [.ref p] S Q = (∃ xs, S p = some (.lst xs) ∧ ∀ p, S p = none → Q (.ref p) (up S p (.lst xs))) := rfl
theorem q_app : appD (.ref p) [x] S Q = (∃ xs, S p = some (.lst xs) ∧ xs.length < 1000000 ∧ Q .non (up S p (.lst (xs ++ [x])))) := rfl
theorem q_ext : extD (.ref p) [.ref q] S Q = (∃ xs ys, S p = some (.lst xs) ∧ S q = some (.lst ys) ∧ xs.length + ys.length ≤ 1000000 ∧ Q .non (up S p (.lst (xs ++ ys)))) := rfl
theorem q_joinL : joinD (.str a) [.ref p] S Q = (∃ xs zs, S p = some (.lst xs) ∧ strsD xs = some zs ∧ (zs.map (·.length)).sum + zs.length * a.length ≤ 1000000 ∧ Q (.str (Txt.join a zs)) S) := rfl
theorem q_stw : stwD (.str a) [.str b] S Q = Q (.bl (Txt.startswith a b)) S := rfl
theorem q_seq : seqD (.tup xs) S R = R xs (fun _ => True) S := rfl
theorem q_lst : lstD (.ref p) S R = (∃ xs, S p = some (.lst xs) ∧ R xs (fun S => S p = some (.lst xs)) S) := rfl
theorem q_rng : rngD [.int j] S R = ((-(2 ^ 62) ≤ j ∧ j < 2 ^ 62) ∧ R (rangeD 0 j.toNat) (fun _ => True) S) := rfl
theorem q_rng2 : rng2D [.int i, .int j] S R = ((-(2 ^ 62) ≤ i ∧ i < 2 ^ 62 ∧ -(2 ^ 62) ≤ j ∧ j < 2 ^ 62) ∧ R (rangeD i (j - i).toNat) (fun _ => True) S) := rfl
theorem q_zpT : zpD [.tup xs, .tup ys] S R = R (zipD xs ys) (fun _ => True) S := rfl
theorem q_zpL : zpD [.ref p, .ref q] S R = (∃ xs ys, S p = some (.lst xs) ∧ S q = some (.lst ys) ∧ R (zipD xs ys) (fun S => S p = some (.lst xs) ∧ S q = some (.lst ys)) S) := rfl
theorem q_truN {f : Bool → Prop} : truD .non S f = f false := rfl
theorem q_truB {f : Bool → Prop} : truD (.bl c) S f = f c := rfl
theorem q_truI {f : Bool → Prop} : truD (.int i) S f = f (i != 0) := rfl
theorem q_truT {f : Bool → Prop} : truD (.tup xs) S f = f (!xs.isEmpty) := rfl
theorem q_truL {f : Bool → Prop} : truD (.ref p) S f = (∃ xs, S p = some (.lst xs) ∧ f (!xs.isEmpty)) := rfl
theorem t_non : tyN .non S = some "NoneType" := rfl
theorem t_bl : tyN (.bl c) S = some "bool" := rfl
theorem t_int : tyN (.int i) S = some "int" := rfl
theorem t_str : tyN (.str a) S = some "str" := rfl
theorem t_tup : tyN (.tup xs) S = some "tuple" := rfl
theorem t_lst (h : S p = some (.lst xs)) : tyN (.ref p) S = some "list" := by simp only [tyN, h]
theorem q_isi {t n : String} (h : tyN x S = some t) : isiD [x, .ty n] S Q = isiR t n S Q := by simp only [isiD, h]
theorem q_isiN {n : String} : isiD [.non, .ty n] S Q = isiR "NoneType" n S Q := rfl
theorem q_isiB {n : String} : isiD [.bl c, .ty n] S Q = isiR "bool" n S Q := rfl
theorem q_isiI {n : String} : isiD [.int i, .ty n] S Q = isiR "int" n S Q := rfl
theorem q_isiS {n : String} : isiD [.str a, .ty n] S Q = isiR "str" n S Q := rfl
theorem q_isiT {n : String} : isiD [.tup xs, .ty n] S Q = isiR "tuple" n S Q := rfl
theorem q_isiL {n : String} (h : S p = some (.lst xs)) : isiD [.ref p, .ty n] S Q = isiR "list" n S Q := by simp only [isiD, t_lst h]
theorem i_NoneType_int : isiR "NoneType" "int" S Q = Q (.bl false) S := rfl
theorem i_NoneType_bool : isiR "NoneType" "bool" S Q = Q (.bl false) S := rfl
theorem i_NoneType_tuple : isiR "NoneType" "tuple" S Q = Q (.bl false) S := rfl
theorem i_NoneType_list : isiR "NoneType" "list" S Q = Q (.bl false) S := rfl
theorem i_NoneType_str : isiR "NoneType" "str" S Q = Q (.bl false) S := rfl
theorem i_bool_int : isiR "bool" "int" S Q = Q (.bl true) S := rfl
theorem i_bool_bool : isiR "bool" "bool" S Q = Q (.bl true) S := rfl
theorem i_bool_tuple : isiR "bool" "tuple" S Q = Q (.bl false) S := rfl
theorem i_bool_list : isiR "bool" "list" S Q = Q (.bl false) S := rfl
theorem i_bool_str : isiR "bool" "str" S Q = Q (.bl false) S := rfl
theorem i_int_int : isiR "int" "int" S Q = Q (.bl true) S := rfl
theorem i_int_bool : isiR "int" "bool" S Q = Q (.bl false) S := rfl
theorem i_int_tuple : isiR "int" "tuple" S Q = Q (.bl false) S := rfl
theorem i_int_list : isiR "int" "list" S Q = Q (.bl false) S := rfl
theorem i_int_str : isiR "int" "str" S Q = Q (.bl false) S := rfl
theorem i_str_int : isiR "str" "int" S Q = Q (.bl false) S := rfl
theorem i_str_bool : isiR "str" "bool" S Q = Q (.bl false) S := rfl
theorem i_str_tuple : isiR "str" "tuple" S Q = Q (.bl false) S := rfl
theorem i_str_list : isiR "str" "list" S Q = Q (.bl false) S := rfl
theorem i_str_str : isiR "str" "str" S Q = Q (.bl true) S := rfl
theorem i_tuple_int : isiR "tuple" "int" S Q = Q (.bl false) S := rfl
theorem i_tuple_bool : isiR "tuple" "bool" S Q = Q (.bl false) S := rfl
theorem i_tuple_tuple : isiR "tuple" "tuple" S Q = Q (.bl true) S := rfl
theorem i_tuple_list : isiR "tuple" "list" S Q = Q (.bl false) S := rfl
theorem i_tuple_str : isiR "tuple" "str" S Q = Q (.bl false) S := rfl
theorem i_list_int : isiR "list" "int" S Q = Q (.bl false) S := rfl
theorem i_list_bool : isiR "list" "bool" S Q = Q (.bl false) S := rfl
theorem i_list_tuple : isiR "list" "tuple" S Q = Q (.bl false) S := rfl
theorem i_list_list : isiR "list" "list" S Q = Q (.bl true) S := rfl
theorem i_list_str : isiR "list" "str" S Q = Q (.bl false) S := rfl
theorem i_dict_int : isiR "dict" "int" S Q = Q (.bl false) S := rfl
theorem i_dict_bool : isiR "dict" "bool" S Q = Q (.bl false) S := rfl
theorem i_dict_tuple : isiR "dict" "tuple" S Q = Q (.bl false) S := rfl
theorem i_dict_list : isiR "dict" "list" S Q = Q (.bl false) S := rfl
theorem i_dict_str : isiR "dict" "str" S Q = Q (.bl false) S := rfl
theorem q_gTp {n : Nat} {r : RGs} {σ : Sg} {N : Sg → Hq → Prop} {E : Xw} : gTp n r (.tup xs) σ S N E = (xs.length = n ∧ r xs σ S N NoX) := rfl
theorem q_gC {g : RG} {r : RGs} {σ : Sg} {N : Sg → Hq → Prop} {E : Xw} : gConss g r (x :: xs) σ S N E = g x σ S (fun σ1 S1 => r xs σ1 S1 N E) E := rfl
theorem q_gN {σ : Sg} {N : Sg → Hq → Prop} {E : Xw} : gNils [] σ S N E = N σ S := rfl
theorem g_02 {α : Type} {a b : α} : gk 0 2 [0, 1] [] [a, b] = [a, b] := rfl
theorem g_02' {α : Type} {a b : α} : gk 0 2 [1, 0] [] [a, b] = [b, a] := rfl
theorem g_01 {α : Type} {a : α} : gk 0 1 [0] [] [a] = [a] := rfl
theorem g_11 {α : Type} {a b : α} : gk 1 1 [0, 1] [a] [b] = [a, b] := rfl
theorem at_0 {α : Type} {x : α} {r : List α} : atI (x :: r) 0 = some x := by
  refine atI_nat (j := 0) ?_
  rfl
theorem at_1 {α : Type} {x y : α} {r : List α} : atI (x :: y :: r) 1 = some y := by
  refine atI_nat (j := 1) ?_
  rfl
theorem ix_0 {n : Nat} : ixN (n + 1) 0 = some 0 := by unfold ixN; simp
theorem ix_1 {n : Nat} : ixN (n + 2) 1 = some 1 := by
  unfold ixN
  have h : (1 : Int) < ((n + 2 : Nat) : Int) := by omega
  rw [if_pos (by decide), if_pos h]; rfl
end
/-! ### the box, and what stands beside it -/
def Bx (S : Hq) (b : Addr) : Prop := ∃ g s : Int, S b = some (.lst [.int g, .int s])
/-- all but b stands as it stood (new things may have come) -/
structure Nx (b : Addr) (S S' : Hq) : Prop where
  bx : Bx S' b
  old : ∀ a o, a ≠ b → S a = some o → S' a = some o
theorem up_get {S : Hq} {p a : Addr} {q o : HQ} (hp : S p = none) (h : S a = some o) : up S p q a = some o := by
  rw [up_ne (fun z => by rw [z, hp] at h; cases h)]; exact h
theorem Nx.get {b a : Addr} {S S' : Hq} {o : HQ} (n : Nx b S S') (ne : a ≠ b) (h : S a = some o) : S' a = some o := n.old a o ne h
theorem ne_get {S : Hq} {a p : Addr} {o : HQ} (h : S a = some o) (hp : S p = none) : a ≠ p := fun z => by rw [z, hp] at h; cases h
theorem Nx.refl {b : Addr} {S : Hq} (h : Bx S b) : Nx b S S := ⟨h, fun _ _ _ h => h⟩
theorem Nx.trans {b : Addr} {S S1 S2 : Hq} (x : Nx b S S1) (y : Nx b S1 S2) : Nx b S S2 := ⟨y.bx, fun a o ne h => y.old a o ne (x.old a o ne h)⟩
theorem Bx.up {b p : Addr} {S : Hq} {q : HQ} (h : Bx S b) (hp : S p = none) : Bx (up S p q) b := let ⟨g, s, e⟩ := h; ⟨g, s, up_get hp e⟩
theorem Nx.new {b p : Addr} {S : Hq} {q : HQ} (h : Bx S b) (hp : S p = none) : Nx b S (up S p q) := ⟨h.up hp, fun _ _ _ h => up_get hp h⟩
theorem Bx.ne {b p : Addr} {S : Hq} (h : Bx S b) (hp : S p = none) : p ≠ b := fun z => by obtain ⟨g, s, e⟩ := h; rw [z, e] at hp; cases hp
theorem Nx.put {b : Addr} {S : Hq} {g s : Int} : Nx b S (up S b (.lst [.int g, .int s])) := ⟨⟨g, s, up_same⟩, fun a o ne h => by rw [up_ne ne]; exact h⟩
theorem up_up {S : Hq} {a : Addr} {o u : HQ} : up (up S a o) a u = up S a u := by funext b; unfold up; split <;> rfl
/-- a list of one's own is written: what stands beside stands -/
theorem Bx.put {b p : Addr} {S : Hq} {q : HQ} (h : Bx S b) (ne : p ≠ b) : Bx (Y.up S p q) b := let ⟨g, s, e⟩ := h; ⟨g, s, by rw [up_ne (Ne.symm ne)]; exact e⟩
theorem law_in {K : PySem.W.Frag} {H : Hp} {Q : VK} {E : XK} {a : Addr} {ns : List Int} {sp : Sq} (ok : ∀ (ns : List Int) (S : Hq) (Q' : Qv), ns.length ≤ 63 → (∀ S', Q' (.bl true) S') → sp [.kl (ns.map D.int)] S Q' NoX) (hl : ns.length ≤ 63) (ho : Only H) (hS : SqL K H a (ns.map V.int)) (q : ∀ H', Q (.bl true) H') : dn K sp [.ref a] H Q E := by
  have hF : SqF K H a (ns.map V.int) := by
    rcases hS with (h | h) | h
    · rcases ho a with z | ⟨o, xs, z⟩
      · rw [z] at h; cases h
      · rw [z] at h; cases h
    · exact .inl h
    · exact .inr h
  exact ⟨[.kl (ns.map D.int)], fun _ => none, fun d _ => d = .bl true, NoX, .cons (.kl hF DVs.ofInts) .nil, fun b o e => (by cases e), ok ns _ _ hl (fun _ => rfl), fun d S' v H' f r dv h => by subst h; cases dv; exact q H', XI.no⟩
end Y
namespace Y
open PySem PySem.Spec PyProof.Rows L2
theorem at_in {α : Type} {xs : List α} {i : Int} (h0 : 0 ≤ i) (h1 : i < xs.length) : ∃ d, d ∈ xs ∧ atI xs i = some d ∧ xs[i.toNat]? = some d := by
  obtain ⟨j, rfl⟩ := Int.eq_ofNat_of_zero_le h0
  have hn : j < xs.length := by omega
  exact ⟨xs[j], List.getElem_mem hn, atI_nat (List.getElem?_eq_getElem hn), List.getElem?_eq_getElem hn⟩
theorem at_ints {ns : List Int} {i : Int} (h0 : 0 ≤ i) (h1 : i < ns.length) : ∃ n, n ∈ ns ∧ atI (ns.map D.int) i = some (.int n) ∧ ns[i.toNat]? = some n := by
  obtain ⟨j, rfl⟩ := Int.eq_ofNat_of_zero_le h0
  have hn : j < ns.length := by omega
  exact ⟨ns[j], List.getElem_mem hn, atI_nat (by rw [List.getElem?_map, List.getElem?_eq_getElem hn]; rfl), List.getElem?_eq_getElem hn⟩
theorem cm_r {i j : Int} (h1 : -(2 ^ 64) < j) (h2 : j < 2 ^ 64) : CMul' i j := .inr ⟨h1, h2⟩
theorem cm_l {i j : Int} (h1 : -(2 ^ 64) < i) (h2 : i < 2 ^ 64) : CMul' i j := .inl ⟨h1, h2⟩
theorem mem_ints {l : List Int} {d : D} (h : d ∈ l.map D.int) : ∃ i, i ∈ l ∧ d = .int i := by
  obtain ⟨i, h1, h2⟩ := List.mem_map.mp h; exact ⟨i, h1, h2.symm⟩
theorem ix_in {n : Nat} {i : Int} (h0 : 0 ≤ i) (h1 : i < n) : ixN n i = some i.toNat := by
  unfold ixN; rw [if_pos h0, if_pos h1]
/-- elements that are drawn: each keeps I and has P -/
theorem lc_draw {gd : Hq → Prop} {te : RE} {i : Nat} {σ : Sg} {Qf : List D → Hq → Prop} (I : Hq → Prop) (P : D → Prop) (hg : ∀ S, I S → gd S) : ∀ (xs acc : List D) (S : Hq),
    (∀ x ∈ xs, ∀ (S : Hq) (Q : Qv), I S → (∀ y S', P y → I S' → Q y S') → te ((wipeD σ [i]).set i (some x)) S Q NoX) →
    acc.length + xs.length ≤ 1000000 → (∀ y ∈ acc, P y) → I S → (∀ acc' S', acc'.length = acc.length + xs.length → (∀ y ∈ acc', P y) → I S' → Qf acc' S') → lcP gd (gNm i) rYes te [i] σ Qf xs acc S
  | [], acc, S, _, _, ha, hi, k => ⟨hg S hi, k acc S (by simp) ha hi⟩
  | x :: r, acc, S, h, hz, ha, hi, k => by
    refine ⟨hg S hi, ?_⟩
    show te ((wipeD σ [i]).set i (some x)) S (fun y S4 => acc.length < 1000000 ∧ lcP gd (gNm i) rYes te [i] σ Qf r (acc ++ [y]) S4) NoX
    refine h x (by simp) S _ hi (fun y S4 py i4 => ⟨by simp at hz; omega, ?_⟩)
    refine lc_draw I P hg r (acc ++ [y]) S4 (fun x hx => h x (by simp [hx])) (by simp at hz ⊢; omega) (fun z hz => ?_) i4 (fun acc' S' hl hp hi' => k acc' S' (by simp at hl ⊢; omega) hp hi')
    rcases List.mem_append.mp hz with hz | hz
    · exact ha z hz
    · rw [List.mem_singleton] at hz; subst hz; exact py
end Y
namespace Y
open PySem PySem.Spec PyProof.Rows L2
theorem ints_of : ∀ {ds : List D}, (∀ y ∈ ds, ∃ i, y = D.int i) → ∃ is : List Int, ds = is.map D.int
  | [], _ => ⟨[], rfl⟩
  | d :: ds, h => by
    obtain ⟨i, rfl⟩ := h d (by simp)
    obtain ⟨is, rfl⟩ := ints_of (ds := ds) fun y hy => h y (by simp [hy])
    exact ⟨i :: is, rfl⟩
theorem cutL_map {α β : Type} (f : α → β) (xs : List α) (lo hi : Option Int) : cutL (xs.map f) lo hi = (cutL xs lo hi).map f := by
  unfold cutL; rw [List.length_map, List.map_take, List.map_drop]
theorem cutL_to {α : Type} (xs : List α) {k : Int} (h : 0 ≤ k) : cutL xs none (some k) = xs.take k.toNat := by
  obtain ⟨j, rfl⟩ := Int.eq_ofNat_of_zero_le h
  unfold cutL
  rw [HT.sIx_none, HT.sIx_nat, Int.toNat_natCast, List.drop_zero, Nat.sub_zero]
  by_cases c : j ≤ xs.length
  · rw [Nat.min_eq_left c]
  · rw [Nat.min_eq_right (by omega), List.take_length, List.take_of_length_le (by omega)]
theorem cutL_from {α : Type} (xs : List α) {k : Int} (h : 0 ≤ k) : cutL xs (some k) none = xs.drop k.toNat := by
  obtain ⟨j, rfl⟩ := Int.eq_ofNat_of_zero_le h
  unfold cutL
  rw [HT.sIx_none, HT.sIx_nat, Int.toNat_natCast]
  by_cases c : j ≤ xs.length
  · rw [Nat.min_eq_left c, List.take_of_length_le (by simp)]
  · rw [Nat.min_eq_right (by omega), List.drop_length, List.drop_of_length_le (by omega)]; simp
/-- a loop by its turn's number -/
theorem loop_idx {gd : Hq → Prop} {g : RG} {tb : RSt} {D0 : En} {xs : List D} {σ : Sg} {S : Hq} (P : Nat → Sg → Hq → Prop) (hg : ∀ i σ S, i ≤ xs.length → P i σ S → gd S)
    (hs : ∀ i x σ S, xs[i]? = some x → P i σ S → ∀ N : Sg → Hq → Prop, (∀ σ' S', P (i + 1) σ' S' → N σ' S') → g x σ S (fun σ2 S2 => tb { D0 with nx := N, ct := N, bk := D0.nx } σ2 S2) (D0.x σ))
    (hd : ∀ σ S, P xs.length σ S → D0.nx σ S) (h0 : P 0 σ S) : loopP gd g tb xs D0 σ S := by
  have key : ∀ (l : List D) (i : Nat) (σ : Sg) (S : Hq), i + l.length = xs.length → (∀ j, l[j]? = xs[i + j]?) → P i σ S → loopP gd g tb l D0 σ S := by
    intro l
    induction l with
    | nil =>
      intro i σ S hl _ hp
      have e : i = xs.length := by simpa using hl
      subst e
      exact ⟨hg _ _ _ (Nat.le_refl _) hp, hd σ S hp⟩
    | cons x r ih =>
      intro i σ S hl hj hp
      have hlr : i + r.length + 1 = xs.length := by rw [List.length_cons] at hl; omega
      refine ⟨hg _ _ _ (by omega) hp, ?_⟩
      refine hs i x σ S (by have := hj 0; simpa using this.symm) hp (loopP gd g tb r D0) fun σ' S' hp' => ?_
      exact ih (i + 1) σ' S' (by omega) (fun j => by have := hj (j + 1); rw [List.getElem?_cons_succ] at this; rw [this]; congr 1; omega) hp'
  exact key xs 0 σ S (by omega) (fun j => by rw [Nat.zero_add]) h0
/-- data for which == of the law's kind is True -/
def Pn : Nat → D → Prop
  | 0, _ => False
  | n + 1, d => match d with
    | .tup xs => xs.length ≤ 100000 ∧ ∀ x ∈ xs, Pn n x
    | .non => True | .bl _ => True | .int _ => True | .str _ => True
    | _ => False
def ofO : Option (List Int) → D
  | none => .non
  | some ns => .tup (ns.map D.int)
def blw : Option (List Int) → Option (List Int) → Bool
  | none, _ => false
  | some _, none => true
  | some a, some b => HT.lexLt a b
theorem Pn_ofO {n : Nat} {o : Option (List Int)} (h : ∀ ns, o = some ns → ns.length ≤ 100000) : Pn (n + 2) (ofO o) := by
  cases o with
  | none => trivial
  | some ns =>
    refine ⟨by rw [List.length_map]; exact h ns rfl, fun x hx => ?_⟩
    obtain ⟨i, _, rfl⟩ := mem_ints hx
    trivial
/-- numbers as the law draws them -/
def Fig (ns : List Int) : Prop := ∃ h m l, ns = h :: (m ++ [l]) ∧ 0 ≤ h ∧ 0 ≤ l ∧ l < 32 ∧ m.length ≤ 13
theorem lex_same {xs : List Int} : HT.lexLt xs xs = false := by
  induction xs with
  | nil => rfl
  | cons x r ih => rw [HT.lexLt_cons, if_pos rfl, ih]
def keyO (z : Str) : Option (List Int) → Option (List Int)
  | none => none
  | some ns => some ((6 - (z.length : Int)) :: ns)
def lst_of (os : List (Option (List Int))) : Option (List Int) := os.foldl (fun acc x => if blw x acc then x else acc) none
end Y
namespace Y
open PySem PySem.Spec PyProof.Rows L2
/-! ### > of tuples of ints -/
theorem ints_at : ∀ {us : List Value} {ns : List Int}, IntsAre us ns → ∀ {j : Nat} {v : Value}, us[j]? = some v → ∃ n t, v = .int n t ∧ ns[j]? = some n
  | _, _, .nil, _, _, h => by simp at h
  | _, _, .cons a t r, 0, v, h => by
    rw [List.getElem?_cons_zero] at h; cases h
    exact ⟨_, _, rfl, rfl⟩
  | _, _, .cons a t r, j + 1, v, h => by
    rw [List.getElem?_cons_succ] at h
    obtain ⟨n, t, e, g⟩ := ints_at r h
    exact ⟨n, t, e, by rw [List.getElem?_cons_succ]; exact g⟩
theorem ints_len : ∀ {us : List Value} {ns : List Int}, IntsAre us ns → us.length = ns.length
  | _, _, .nil => rfl
  | _, _, .cons a t r => congrArg (· + 1) (ints_len r)
def gtE (ns ms : List Int) (j : Nat) : Bool := decide (ns.getD j 0 = ms.getD j 0)
def gtR (ns ms : List Int) (j : Nat) : Bool := decide (ms.getD j 0 < ns.getD j 0)
theorem lexAt_gt (ns ms : List Int) : ∀ (k i : Nat), k = min (ns.length - i) (ms.length - i) → i ≤ min ns.length ms.length → Ob.lexAt (gtE ns ms) (gtR ns ms) (decide (ns.length > ms.length)) i k = HT.lexLt (ms.drop i) (ns.drop i)
  | 0, i, h, hi => by
    rw [Ob.lexAt_zero]
    by_cases c : i < ms.length
    · have e : ns.drop i = [] := List.drop_eq_nil_of_le (by omega)
      rw [e, List.drop_eq_getElem_cons c, HT.lexLt_cons_nil]
      exact decide_eq_false (by omega)
    · have e : ms.drop i = [] := List.drop_eq_nil_of_le (by omega)
      rw [e]
      by_cases c2 : i < ns.length
      · rw [List.drop_eq_getElem_cons c2, HT.lexLt_nil_cons]
        exact decide_eq_true (by omega)
      · have e : ns.drop i = [] := List.drop_eq_nil_of_le (by omega)
        rw [e, HT.lexLt_nil_nil]
        exact decide_eq_false (by omega)
  | k + 1, i, h, hi => by
    have h1 : i < ns.length := by omega
    have h2 : i < ms.length := by omega
    rw [Ob.lexAt_succ, lexAt_gt ns ms k (i + 1) (by omega) (by omega), List.drop_eq_getElem_cons h1, List.drop_eq_getElem_cons h2, HT.lexLt_cons]
    have e1 : ns.getD i 0 = ns[i] := by simp [List.getD, List.getElem?_eq_getElem h1]
    have e2 : ms.getD i 0 = ms[i] := by simp [List.getD, List.getElem?_eq_getElem h2]
    unfold gtE gtR
    rw [e1, e2]
    by_cases c : ns[i] = ms[i]
    · rw [if_pos (by simpa using c), if_pos c.symm]
    · rw [if_neg (by simpa using c), if_neg (fun z => c z.symm)]
def rGtT (K : PySem.W.Frag) : R2 := fun x y H Q => ∃ (a b : Addr) (ns ms : List Int), x = .ref a ∧ y = .ref b ∧ SqT K H a (ns.map V.int) ∧ SqT K H b (ms.map V.int) ∧ Q (.bl (HT.lexLt ms ns)) H
section
variable {X : Cx} {K : PySem.W.Frag}
theorem op_gtT (hu : X.A.units < cLine) : OpR X (compareOp .Gt) (rGtT X.K) := by
  intro pins s σ H x y v u Q I rx ry h
  obtain ⟨a, b, ns, ms, rfl, rfl, ha, hb, q⟩ := h
  cases rx
  cases ry
  obtain ⟨its, r1, p1, _⟩ := I.tuple ha
  obtain ⟨its2, r2, p2, _⟩ := I.tuple hb
  have i1 : IntsAre its ns := intsAre_of r1
  have i2 : IntsAre its2 ms := intsAre_of r2
  have key := Ob.RcOp.tuples_gt (A := X.A) (s := s) (l := a) (b := b) (items := its.toArray) (items2 := its2.toArray) (e := gtE ns ms) (r := gtR ns ms) p1 p2 hu
    (fun j h1 h2 => by
      obtain ⟨n, t, e, g⟩ := ints_at i1 (j := j) (v := its.toArray[j]) (by simp)
      obtain ⟨m, u, e', g'⟩ := ints_at i2 (j := j) (v := its2.toArray[j]) (by simp)
      rw [e, e']
      obtain ⟨c, hc, hcc⟩ := HT.eqAt_int X.A.in1 s n t m u
      have : c = gtE ns ms j := by
        unfold gtE
        simp only [List.getD, g, g', Option.getD_some]
        cases c
        · exact (decide_eq_false (fun z => by have := hcc.mpr z; cases this)).symm
        · exact (decide_eq_true (hcc.mp rfl)).symm
      rw [← this]; exact hc)
    (fun j h1 h2 _ => by
      obtain ⟨n, t, e, g⟩ := ints_at i1 (j := j) (v := its.toArray[j]) (by simp)
      obtain ⟨m, u, e', g'⟩ := ints_at i2 (j := j) (v := its2.toArray[j]) (by simp)
      rw [e, e']
      have : gtR ns ms j = decide (m < n) := by unfold gtR; simp only [List.getD, g, g', Option.getD_some]
      rw [this]
      exact Ob.RcOp.gt_int n m t u)
  have e : Ob.lexAt (gtE ns ms) (gtR ns ms) (decide (its.toArray.size > its2.toArray.size)) 0 (min its.toArray.size its2.toArray.size) = HT.lexLt ms ns := by
    rw [List.size_toArray, List.size_toArray, ints_len i1, ints_len i2]
    exact lexAt_gt ns ms _ 0 rfl (Nat.zero_le _)
  rw [e] at key
  exact key _ _ _ _ ⟨.bl (HT.lexLt ms ns), H, I, rfl, q⟩
def gtD2 : R2q := fun x y S Q => match x, y with
  | .int i, .int j => Q (.bl (decide (j < i))) S
  | .tup xs, .tup ys => ∃ ns ms, xs = ns.map D.int ∧ ys = ms.map D.int ∧ Q (.bl (HT.lexLt ms ns)) S
  | _, _ => False
def rGtU (K : PySem.W.Frag) : R2 := fun x y H Q => rI0 (fun i j => .bl (decide (j < i))) x y H Q ∨ rGtT K x y H Q
theorem op_gtU (hu : X.A.units < cLine) : OpR X (compareOp .Gt) (rGtU X.K) := opr_or op_gt (op_gtT hu)
theorem lf_gt2 : Lift2 K gtD2 (rGtU K) := by
  intro x y S H Q' Q v u rh dx dy h q
  cases x <;> cases y <;> try exact h.elim
  · cases dx; cases dy; exact .inl ⟨_, _, rfl, rfl, q.here rh (.bl _) h⟩
  · obtain ⟨ns, ms, rfl, rfl, h⟩ := h
    cases dx with | tup s1 r1 =>
    cases dy with | tup s2 r2 =>
    rw [r1.ints] at s1
    rw [r2.ints] at s2
    exact .inr ⟨_, _, ns, ms, rfl, rfl, s1, s2, q.here rh (.bl _) h⟩
end
section
variable {S : Hq} {Q : Qv} {i j : Int} {xs ys : List D}
theorem q_gt2 : gtD2 (.int i) (.int j) S Q = Q (.bl (decide (j < i))) S := rfl
theorem q_gtT : gtD2 (.tup xs) (.tup ys) S Q = (∃ ns ms, xs = ns.map D.int ∧ ys = ms.map D.int ∧ Q (.bl (HT.lexLt ms ns)) S) := rfl
end
/-! ### isinstance of a row of types -/
def isiAll (t : String) : List D → Option Bool
  | [] => some false
  | .ty n :: r => match isiB t n, isiAll t r with | some b, some c => some (b || c) | _, _ => none
  | _ => none
def isi2D (ds : List D) (S : Hq) (Q : Qv) : Prop := match ds with
  | [x, .tup cs] => match tyN x S with | some t => (match isiAll t cs with | some b => Q (.bl b) S | none => False) | none => False
  | _ => isiD ds S Q
def rIsiS (K : PySem.W.Frag) : List V → Hp → VK → Prop := fun xs H Q => ∃ (x : V) (tp : Addr) (cs : List V) (t : Value) (us : List Value) (b : Bool), xs = [x, .ref tp] ∧ SqT K H tp cs ∧ Paired ClsV cs us ∧ TyX K H x t ∧ PySem.W.kitAny K t us = some b ∧ Q (.bl b) H
section
variable {X : Cx} {K : PySem.W.Frag} {H : Hp} {S : Hq}
theorem call_isiS : CallR X (.builtin "isinstance") (rIsiS X.K) := by
  intro pins s σ H xs us Q I r h
  obtain ⟨x, tp, cs, t, ws, b, rfl, hT, k, ty, e, q⟩ := h
  obtain ⟨u1, u2, rfl, r1, r2⟩ := vals2 r
  cases (show u2 = Value.ref tp from r2)
  obtain ⟨P, Z, p, hx⟩ := kit_of I r1 ty
  obtain ⟨its, rv, ht, _⟩ := I.tuple hT
  have e3 := ClsV.all k rv
  subst e3
  obtain ⟨⟨oc, odd, dt, sl⟩, h1, h2, n, h3⟩ := ht
  simp only at h2 h3
  subst h2 h3
  exact PySem.W.kia_tup Z I.kIn p h1 e hx fun tk => ⟨.bl b, H, I.tok tk, rfl, q⟩
theorem isiAll_kit {t : String} (ht : t = "NoneType" ∨ t = "bool" ∨ t = "int" ∨ t = "str" ∨ t = "tuple" ∨ t = "list" ∨ t = "dict") : ∀ {ds : List D} {vs : List V} {b : Bool}, isiAll t ds = some b → DVs K H ds vs → ∃ us, Paired ClsV vs us ∧ PySem.W.kitAny K (.type t) us = some b
  | [], _, _, h, .nil => by cases h; exact ⟨[], .nil, kitAny_nil⟩
  | .ty n :: r, _, b, h, .cons (.ty _) dr => by
    unfold isiAll at h
    split at h
    · rename_i c d ec ed
      cases h
      obtain ⟨us, p, k⟩ := isiAll_kit ht ed dr
      refine ⟨_, .cons (.ty n) p, kitAny_cons (b := c) (kit_ty (isiB_kit ht ec)) (fun z => ?_) (fun z => ?_)⟩
      · rw [z, Bool.false_or]; exact k
      · rw [z, Bool.true_or]
    · cases h
  | .non :: _, _, _, h, _ => by cases h
  | .bl _ :: _, _, _, h, _ => by cases h
  | .int _ :: _, _, _, h, _ => by cases h
  | .str _ :: _, _, _, h, _ => by cases h
  | .tup _ :: _, _, _, h, _ => by cases h
  | .ref _ :: _, _, _, h, _ => by cases h
  | .kl _ :: _, _, _, h, _ => by cases h
  | .cl _ :: _, _, _, h, _ => by cases h
theorem lc_isi2 : LiftC K isi2D (fun xs H Q => rIsi K xs H Q ∨ rIsiS K xs H Q) := by
  intro ds S H Q' Q vs rh dv h q
  unfold isi2D at h
  split at h
  · rename_i x cs
    split at h
    · rename_i t et
      split at h
      · rename_i b eb
        match vs, dv with
        | [_, _], .cons d1 (.cons (.tup sq dc) .nil) =>
          obtain ⟨ty, ts⟩ := tyN_of rh d1 et
          obtain ⟨us, p, k⟩ := isiAll_kit ts eb dc
          exact .inr ⟨_, _, _, _, us, b, rfl, sq, p, ty, k, q.here rh (.bl _) h⟩
      · exact h.elim
    · exact h.elim
  · exact .inl (lc_isi _ _ _ _ _ _ rh dv h q)
theorem call_isi2 : CallR X (.builtin "isinstance") (fun xs H Q => rIsi X.K xs H Q ∨ rIsiS X.K xs H Q) := by
  intro pins s σ H xs us Q I r h
  rcases h with h | h
  · exact call_isi _ _ _ _ _ _ _ I r h
  · exact call_isiS _ _ _ _ _ _ _ I r h
end
section
variable {S : Hq} {Q : Qv} {n a b : String} {x : D} {p : Addr} {xs : List D} {z : Str} {i : Int} {c : Bool}
theorem q_isi2 : isi2D [x, .ty n] S Q = isiD [x, .ty n] S Q := by cases x <;> rfl
theorem q_i2N : isi2D [.non, .tup [.ty "tuple", .ty "list"]] S Q = Q (.bl false) S := rfl
theorem q_i2B : isi2D [.bl c, .tup [.ty "tuple", .ty "list"]] S Q = Q (.bl false) S := rfl
theorem q_i2I : isi2D [.int i, .tup [.ty "tuple", .ty "list"]] S Q = Q (.bl false) S := rfl
theorem q_i2S : isi2D [.str z, .tup [.ty "tuple", .ty "list"]] S Q = Q (.bl false) S := rfl
theorem q_i2T : isi2D [.tup xs, .tup [.ty "tuple", .ty "list"]] S Q = Q (.bl true) S := rfl
theorem q_i2L (h : S p = some (.lst xs)) : isi2D [.ref p, .tup [.ty "tuple", .ty "list"]] S Q = Q (.bl true) S := by
  simp only [isi2D, t_lst h]; rfl
theorem q_j2N : isi2D [.non, .tup [.ty "list", .ty "tuple"]] S Q = Q (.bl false) S := rfl
theorem q_j2B : isi2D [.bl c, .tup [.ty "list", .ty "tuple"]] S Q = Q (.bl false) S := rfl
theorem q_j2I : isi2D [.int i, .tup [.ty "list", .ty "tuple"]] S Q = Q (.bl false) S := rfl
theorem q_j2S : isi2D [.str z, .tup [.ty "list", .ty "tuple"]] S Q = Q (.bl false) S := rfl
theorem q_j2T : isi2D [.tup xs, .tup [.ty "list", .ty "tuple"]] S Q = Q (.bl true) S := rfl
theorem q_j2L (h : S p = some (.lst xs)) : isi2D [.ref p, .tup [.ty "list", .ty "tuple"]] S Q = Q (.bl true) S := by
  simp only [isi2D, t_lst h]; rfl
end
/-! ### enumerate -/
def enumD (xs : List D) : List D := zipD (rangeD 0 xs.length) xs
theorem enumD_len {xs : List D} : (enumD xs).length = xs.length := by unfold enumD; rw [zipD_len, rangeD_len]; omega
theorem enumD_get {xs : List D} {i : Nat} {z : D} (h : (enumD xs)[i]? = some z) : ∃ x, xs[i]? = some x ∧ z = .tup [.int (i : Int), x] := by
  obtain ⟨a, b, h1, h2, rfl⟩ := zipD_get h
  obtain ⟨_, rfl⟩ := rangeD_get h1
  exact ⟨b, h2, by rw [Int.zero_add]⟩
def enD (ds : List D) (S1 : Hq) (R : List D → (Hq → Prop) → Hq → Prop) : Prop := match ds with
  | [.ref a] => ∃ xs, LsR S1 a xs ∧ R (enumD xs) (fun S => LsR S a xs) S1
  | _ => False
def iEn (ra : RA) : RI := fun σ S R E => ra σ S (fun ds S1 => enD ds S1 R) E
theorem it_enum {K : PySem.W.Frag} {S1 : Hq} {H1 : Hp} {a : Addr} {xs : List D} : ItOk K S1 H1 (Ite K a) (enumD xs) (fun S => LsR S a xs) := by
  refine ⟨fun S H f rh g => ?_, fun i x S H hx f rh g => ?_, fun i x S H v H' hx f rh g hy => ?_⟩
  · obtain ⟨vs, s, r⟩ := rh.sql g
    exact ⟨vs, s, by rw [enumD_len, r.length]; exact Nat.le_refl _⟩
  · obtain ⟨vs, s, r⟩ := rh.sql g
    obtain ⟨y, hy, _⟩ := enumD_get hx
    obtain ⟨v, hv, _⟩ := r.get hy
    exact ⟨vs, v, s, hv⟩
  · obtain ⟨vs, s, r⟩ := rh.sql g
    obtain ⟨y, hxy, rfl⟩ := enumD_get hx
    obtain ⟨v', hv, dv⟩ := r.get hxy
    obtain ⟨T, x2, rfl, hT, rfl, e1⟩ := hy
    have e1 := e1 vs s
    rw [hv] at e1; cases e1
    have f' := Fr.new (o := .tup [.int (i : Int), v']) rh hT
    exact ⟨f', rh.new hT, .tup (.inl (.inl upd_same)) (.cons (.int _) (.cons (DV.mono (f'.tle rh) _ _ dv) .nil))⟩
section
variable {X : Cx} {W : WX} {e e2 : Expr} {r : RE} {pos : Pos}
theorem ei_enum {ra : RA} {p tpos : Pos} {elts : List Expr} {kk : Nat} (hm : X.mg "enumerate" = none) (ha : EA X W [e] ra) (hg : Gl X "enumerate" := by rfl)
    (hs : starEach [e] X.env = [(false, eval e X.env)] := by rfl) : EI X W (.Tuple elts kk tpos) (.Call (.Name "enumerate" p) [e] [] pos) (iEn ra) := by
  obtain ⟨T, pp, l⟩ := ha.ex
  refine ⟨_, pi_enum hg hm pp hs, fun σ σ' H S R R' E' rs rh h q xi => ?_⟩
  refine l σ σ' H S _ _ _ rs rh h (fun ds S1 v H1 f1 rh1 dv h1 => ?_) xi
  match ds, dv, h1 with
  | [.ref a], .cons (.ref _) .nil, h1 =>
    obtain ⟨xs, g, h1⟩ := h1
    obtain ⟨vs, s, r⟩ := rh1.sql g
    exact ⟨_, vs, rfl, s, q _ _ _ _ _ f1 rh1 it_enum h1⟩
end
section
variable {S : Hq} {p : Addr} {R : List D → (Hq → Prop) → Hq → Prop}
theorem q_en : enD [.ref p] S R = (∃ xs, S p = some (.lst xs) ∧ R (enumD xs) (fun S => S p = some (.lst xs)) S) := rfl
end
/-! ### targets in comprehensions -/
theorem wipe_len {σ : L2.St} : ∀ {vs : List Nat}, (L2.wipe σ vs).length = σ.length
  | [] => rfl
  | v :: vs => by unfold L2.wipe; rw [List.length_set, wipe_len]
theorem wipe_get {σ : L2.St} {i : Nat} : ∀ {vs : List Nat}, (L2.wipe σ vs)[i]? = if i ∈ vs then (σ[i]?).map (fun _ => none) else σ[i]?
  | [] => (if_neg (List.not_mem_nil)).symm
  | v :: vs => by
    unfold L2.wipe
    rw [List.getElem?_set, wipe_len]
    by_cases c : v = i
    · subst c
      rw [if_pos rfl, if_pos (show v ∈ v :: vs from List.mem_cons_self)]
      by_cases l : v < σ.length
      · rw [if_pos l, List.getElem?_eq_getElem l]; rfl
      · rw [if_neg l, List.getElem?_eq_none (by omega)]; rfl
    · rw [if_neg c, wipe_get (vs := vs)]
      by_cases m : i ∈ vs
      · rw [if_pos m, if_pos (List.mem_cons_of_mem _ m)]
      · rw [if_neg m, if_neg (fun z => by rcases List.mem_cons.mp z with z | z; exact c z.symm; exact m z)]
theorem wipe_wipe {σ : L2.St} {vs : List Nat} : L2.wipe (L2.wipe σ vs) vs = L2.wipe σ vs := by
  apply List.ext_getElem?
  intro i
  rw [wipe_get, wipe_get]
  by_cases m : i ∈ vs
  · simp only [if_pos m, Option.map_map]; rfl
  · simp only [if_neg m]
theorem wipe_set {σ : L2.St} {vs : List Nat} {i : Nat} {x : Option V} (m : i ∈ vs) : L2.wipe (σ.set i x) vs = L2.wipe σ vs := by
  apply List.ext_getElem?
  intro j
  rw [wipe_get, wipe_get, List.getElem?_set]
  by_cases c : i = j
  · subst c
    rw [if_pos m, if_pos m, if_pos rfl]
    by_cases l : i < σ.length
    · rw [if_pos l, List.getElem?_eq_getElem l]; rfl
    · rw [if_neg l, List.getElem?_eq_none (by omega)]
  · rw [if_neg c]
structure Kp (T : TG) (g : RG) (vs : List Nat) (K : PySem.W.Frag) : Prop where
  to : ∀ (σ : L2.St) (σ' : Sg) (H : Hp) (S : Hq) (d : D) (v : V) (N : L2.St → Hp → Prop) (N' : Sg → Hq → Prop), RS K H σ' σ → RH K S H → DV K H d v → g d σ' S N' NoX → (∀ σ2' σ2, L2.wipe σ2 vs = L2.wipe σ vs → RS K H σ2' σ2 → N' σ2' S → N σ2 H) → T v σ H N
structure Kps (T : TGs) (g : RGs) (vs : List Nat) (K : PySem.W.Frag) : Prop where
  to : ∀ (σ : L2.St) (σ' : Sg) (H : Hp) (S : Hq) (d : List D) (v : List V) (N : L2.St → Hp → Prop) (N' : Sg → Hq → Prop), RS K H σ' σ → RH K S H → DVs K H d v → g d σ' S N' NoX → (∀ σ2' σ2, L2.wipe σ2 vs = L2.wipe σ vs → RS K H σ2' σ2 → N' σ2' S → N σ2 H) → T v σ H N
section
variable {K : PySem.W.Frag} {vs : List Nat}
theorem kp_nm {i : Nat} (m : i ∈ vs := by decide) : Kp (gName i) (gNm i) vs K := ⟨fun σ σ' H S d v N N' rs rh dv h n => n _ _ (wipe_set m) (rs.set dv i) h⟩
theorem kps_nil : Kps gNil gNils vs K := ⟨fun σ σ' H S d v N N' rs rh dv h n => by
  cases dv with
  | nil => exact ⟨rfl, n _ _ rfl rs h⟩
  | cons _ _ => exact h.elim⟩
theorem kps_cons {T : TG} {g : RG} {Ts : TGs} {gs : RGs} (h1 : Kp T g vs K) (h2 : Kps Ts gs vs K) : Kps (gCons T Ts) (gConss g gs) vs K := ⟨fun σ σ' H S d v N N' rs rh dv h n => by
  cases dv with
  | nil => exact h.elim
  | cons x r => exact ⟨_, _, rfl, h1.to σ σ' H S _ _ _ _ rs rh x h fun σ2' σ2 e rs2 h2' => h2.to σ2 σ2' H S _ _ _ _ rs2 rh r h2' fun σ3' σ3 e3 rs3 h3 => n _ _ (e3.trans e) rs3 h3⟩⟩
theorem kp_tp {Ts : TGs} {gs : RGs} {n : Nat} (h : Kps Ts gs vs K) : Kp (gTup K n Ts) (gTp n gs) vs K := ⟨fun σ σ' H S d v N N' rs rh dv hh nn => by
  cases dv with
  | tup s r => exact ⟨_, _, rfl, s, by rw [← r.length]; exact hh.1, h.to σ σ' H S _ _ N N' rs rh r hh.2 nn⟩
  | _ => exact hh.elim⟩
theorem Kp.keeps {T : TG} {g : RG} (h : Kp T g vs K) : Keeps T g vs K := ⟨fun σ σ' H S d v N N' rs rh dv hh n => h.to (L2.wipe σ vs) σ' H S d v N N' rs rh dv hh fun σ2' σ2 e rs2 h2 => n σ2' σ2 (by rw [e, wipe_wipe]) rs2 h2⟩
end
section
variable {X : Cx} {W : WX} {pos : Pos}
theorem ev_lcT {tg elt it : Expr} {ifs : List Expr} {scope : Scope} {ri : RI} {G : TG} {g : RG} {tt : RT} {te : RE} {own : List (Str × Nat)} (hc : X.calm = true) (hN : X.N.Nodup) (hi : EI X W tg it ri) (ok : BlkOk X.N X.env.scope scope own) (kp : Keeps G g (own.map (·.2)) X.K)
    (hg : ∀ (s : Shared) (H : Hp) (C : Addr) (cl : List (Str × Addr)) (fp : List Addr), PG (X.blk s H scope (compEnvC scope cl C X.env) fp) tg G)
    (ht : ∀ (s : Shared) (H : Hp) (C : Addr) (cl : List (Str × Addr)) (fp : List Addr), EP1 (X.blk s H scope (compEnvC scope cl C X.env) fp) W0 ifs tt)
    (he : ∀ (s : Shared) (H : Hp) (C : Addr) (cl : List (Str × Addr)) (fp : List Addr), EV (X.blk s H scope (compEnvC scope cl C X.env) fp) W0 elt te) (hs : ∀ x, foldedSetIterable it X.env x = pure x := by intro _; rfl) :
    EV X W (.ListComp elt [⟨tg, it, ifs, 0⟩] scope pos) (rLc ri g tt te (own.map (·.2))) := by
  obtain ⟨wi, pi, li⟩ := hi.ex
  refine ⟨_, pe_lc (tt := dnT X.K W0 tt) (te := dnE X.K W0 te) hc hN pi ok hg (fun s H C cl fp => (ht s H C cl fp).pe) (fun s H C cl fp => (he s H C cl fp).pe) hs, fun σ σ' H S Q Q' E' rs rh h q xi => ?_⟩
  exact li σ σ' H S _ _ _ rs rh h (fun J xs gd S1 H1 f1 rh1 ok h1 => lc_run (W := W) kp (rs.mono (f1.tle rh)) rh1 ok (q.go f1) h1) xi
theorem es_setLcT (j : Nat) {y : Str} {py spos : Pos} {tg elt it : Expr} {ifs : List Expr} {scope : Scope} {ri : RI} {G : TG} {g : RG} {tt : RT} {te : RE} {own : List (Str × Nat)} (hc : X.calm = true) (hN : X.N.Nodup) (hi : EI X W tg it ri) (ok : BlkOk X.N X.env.scope scope own) (kp : Keeps G g (own.map (·.2)) X.K)
    (hg : ∀ (s : Shared) (H : Hp) (C : Addr) (cl : List (Str × Addr)) (fp : List Addr), PG (X.blk s H scope (compEnvC scope cl C X.env) fp) tg G)
    (ht : ∀ (s : Shared) (H : Hp) (C : Addr) (cl : List (Str × Addr)) (fp : List Addr), EP1 (X.blk s H scope (compEnvC scope cl C X.env) fp) W0 ifs tt)
    (he : ∀ (s : Shared) (H : Hp) (C : Addr) (cl : List (Str × Addr)) (fp : List Addr), EV (X.blk s H scope (compEnvC scope cl C X.env) fp) W0 elt te)
    (hsw : swapsWith (.ListComp elt [⟨tg, it, ifs, 0⟩] scope pos) (some (.Name y py)) spos.line X.env = pure true) (hy : X.N[j]? = some y := by rfl) (hyl : X.env.scope.names.lookup y = some .local := by rfl) (hs : ∀ x, foldedSetIterable it X.env x = pure x := by intro _; rfl) :
    ES X W (.Assign [.Name y py] (.ListComp elt [⟨tg, it, ifs, 0⟩] scope pos) spos) (rSet (rLc ri g tt te (own.map (·.2))) (gNm j)) := by
  obtain ⟨wi, pi, li⟩ := hi.ex
  refine ⟨_, ps_setLc (tt := dnT X.K W0 tt) (te := dnE X.K W0 te) hc hN hy hyl hsw pi ok hg (fun s H C cl fp => (ht s H C cl fp).pe) (fun s H C cl fp => (he s H C cl fp).pe) hs, fun σ σ' H S D D' rs rh h d => ?_⟩
  refine li σ σ' H S _ _ _ rs rh h (fun J xs gd S1 H1 f1 rh1 ok h1 => ?_) (d.xi rh rs)
  refine lc_run (W := W) (Q := fun v H1 => gName j v σ H1 D.nx) (Q' := fun d S1 => gNm j d σ' S1 D'.nx (D'.x σ')) kp (rs.mono (f1.tle rh)) rh1 ok ?_ h1
  intro dd S2 v H2 f2 rh2 dv h2
  exact d.nx _ _ _ _ (f1.trans f2) rh2 ((rs.mono ((f1.trans f2).tle rh)).set dv j) h2
end
end Y
namespace Y
open PySem PySem.Spec PyProof.Rows L2
/-! ### int(t, 2) -/
namespace Bi
open PySem.NumText PySem.Calls
def Is (c : Nat) : Prop := c = 48 ∨ c = 49
def num (l : List Nat) : Nat := l.foldl (fun a c => a * 2 + (c - 48)) 0
theorem hex {c : Nat} (h : Is c) : Hx.IsHex c := by unfold Is at h; unfold Hx.IsHex; omega
theorem hexs {l : List Nat} (h : ∀ c ∈ l, Is c) : ∀ c ∈ l, Hx.IsHex c := fun c m => hex (h c m)
theorem step2 {ds : Array Nat} {b : Bool} {c : Nat} (h : Is c) : NumText.step 2 (ds, b) c = some (ds.push (c - 48), true) := by
  rcases h with rfl | rfl <;> rfl
theorem fold2 : ∀ (l : List Nat) (ds : Array Nat), (∀ c ∈ l, Is c) → l.foldlM (NumText.step 2) (ds, true) = some (l.foldl (fun a c => a.push (c - 48)) ds, true)
  | [], _, _ => rfl
  | c :: l, ds, h => by
    rw [List.foldlM_cons, step2 (h c List.mem_cons_self)]
    exact fold2 l _ fun d m => h d (List.mem_cons_of_mem _ m)
theorem digits2 {l : List Nat} (h : ∀ c ∈ l, Is c) (n : l ≠ []) : digits? 2 l = some (l.foldl (fun a c => a.push (c - 48)) #[]) := by
  match l, n with
  | c :: l, _ =>
    unfold digits?
    rw [List.foldlM_cons, step2 (h c List.mem_cons_self)]
    show (l.foldlM (NumText.step 2) ((#[] : Array Nat).push (c - 48), true)).bind _ = _
    rw [fold2 l _ fun d m => h d (List.mem_cons_of_mem _ m)]
    rfl
theorem push2 : ∀ (l : List Nat) (ds : Array Nat), (l.foldl (fun a c => a.push (c - 48)) ds).foldl (fun a d => a * 2 + d) 0 = l.foldl (fun a c => a * 2 + (c - 48)) (ds.foldl (fun a d => a * 2 + d) 0)
  | [], _ => rfl
  | c :: l, ds => by
    rw [List.foldl_cons, push2 l (ds.push (c - 48)), List.foldl_cons, Array.foldl_push]
theorem based2 : ∀ {l : List Nat}, (∀ c ∈ l, Is c) → based 2 l = (2, false, l)
  | [], _ => rfl
  | [a], h => by rcases h a List.mem_cons_self with rfl | rfl <;> rfl
  | a :: c :: r, h => by
    rcases h a List.mem_cons_self with rfl | rfl <;> rcases h c (List.mem_cons_of_mem _ List.mem_cons_self) with rfl | rfl <;> rfl
theorem read2 {l : List Nat} (h : ∀ c ∈ l, Is c) (n : l ≠ []) : (int_private% "readNumeral") 0 2 l = (int_private% "Numeral.value") ((num l : Nat) : Int) := by
  have hr := hexs (l := l.reverse) fun c m => h c (List.mem_reverse.mp m)
  refine (readNumeral_eq 0 2 l).trans ?_
  rw [Hx.dropB (hexs h), Hx.signH (hexs h)]
  show judge 0 false (based 2 l).1 (based 2 l).2.1 (digits? (based 2 l).1 (((based 2 l).2.2.reverse.dropWhile blank).reverse)) = _
  rw [based2 h]
  show judge 0 false 2 false (digits? 2 ((l.reverse.dropWhile blank).reverse)) = _
  rw [Hx.dropB hr, List.reverse_reverse, digits2 h n]
  show (int_private% "Numeral.value") (((l.foldl (fun a c => a.push (c - 48)) (#[] : Array Nat)).foldl (fun a d => a * 2 + d) 0 : Nat) : Int) = _
  have z : (#[] : Array Nat).foldl (fun a d => a * 2 + d) 0 = 0 := by first | rfl | simp
  rw [push2, z] <;> rfl
set_option maxHeartbeats 4000000 in
theorem gives2 {x : PySem.Str} {u t : Tok} (hl : x.length ≤ 640) (h : ∀ c ∈ x.cps.toList, Is c) (n : x.cps.toList ≠ []) : Gives (Builtin.«int.__new__» ⟨[.type "int", .str x u, .int 2 t], []⟩) (.int ((num x.cps.toList : Nat) : Int)) :=
  .of_wp fun M A E s Q hQ => by
    obtain ⟨hp, g, d, tk, os⟩ := s
    have f1 := F.conv_sub_int; have f2 := F.madeHere_int; have f6 : typeOf (.str x u) = pure (.type "str") := rfl
    obtain ⟨e1, e2⟩ := Hx.seen_hex (hexs h)
    have hk : Hx.Hid ((numSeenOf x).length ≤ 640 ∧ (int_private% "readNumeral") 0 2 (numSeenOf x) = (int_private% "Numeral.value") ((num x.cps.toList : Nat) : Int) ∧ ((numSeenOf x).length == (numTextOf x).length) = true) := by
      refine ⟨?_, ?_, ?_⟩
      · rw [e2, Array.length_toList]; exact hl
      · rw [e2]; exact read2 h n
      · rw [e1, e2]; exact beq_self_eq_true _
    clear e1 e2 hl n h
    repeat (any_goals (first
      | assumption
      | ((with_reducible show wpAny _ _ ((int_private% "intFromText") _ _ _) _ _ _); refine Hx.wp_textB hk.out.1 hk.out.2.1 hk.out.2.2 ?_)
      | wp_step))
    all_goals (first | exact ⟨_, rfl, hQ⟩ | skip)
theorem call2 {prog : Program} {w : World} {A : Around} {E : Value → Shared → Prop} {s : Shared} {Q : Value → Shared → Prop} {x : PySem.Str} {u t : Tok} (hl : x.length ≤ 640) (h : ∀ c ∈ x.cps.toList, Is c) (n : x.cps.toList ≠ [])
    (hQ : Q (.int ((num x.cps.toList : Nat) : Int) s.toks) { s with toks := s.toks + 1 }) : wpAny (model prog w) A (call (.type "int") [.str x u, .int 2 t]) Q E s :=
  callType_new F.called_int F.newNe_int (Hx.typeCall_int_2 _ _) (Hx.newCall_int_2 _ _) (fun obj => F.initArgs_range_2 obj _ _) F.entry_int_new (gives2 hl h n).meets (show (Made.int ((num x.cps.toList : Nat) : Int)).post _ s from ⟨rfl, hQ⟩)
end Bi
/-- int(d) or int(t, 2) -/
def int2F (ds : List D) (S : Hq) (Q : Qv) : Prop := match ds with
  | [.str z, .int 2] => z.cps.toList ≠ [] ∧ z.length ≤ 640 ∧ (∀ c ∈ z.cps.toList, Bi.Is c) ∧ Q (.int ((Bi.num z.cps.toList : Nat) : Int)) S
  | _ => False
section
variable {X : Cx} {K : PySem.W.Frag}
theorem call_int2b : CallR X (.type "int") (fun xs H Q => ∃ z : Str, xs = [.str z, .int 2] ∧ z.cps.toList ≠ [] ∧ z.length ≤ 640 ∧ (∀ c ∈ z.cps.toList, Bi.Is c) ∧ Q (.int ((Bi.num z.cps.toList : Nat) : Int)) H) := by
  intro pins s σ H xs us Q I r h
  obtain ⟨z, rfl, n, hl, hx, q⟩ := h
  obtain ⟨u, w', rfl, r1, r2⟩ := vals2 r
  obtain ⟨t1, rfl⟩ := r1
  obtain ⟨t2, rfl⟩ := r2
  exact Bi.call2 hl hx n ⟨.int ((Bi.num z.cps.toList : Nat) : Int), H, I.tok _, ⟨_, rfl⟩, q⟩
theorem lc_int2 : LiftC K int2F (fun xs H Q => ∃ z : Str, xs = [.str z, .int 2] ∧ z.cps.toList ≠ [] ∧ z.length ≤ 640 ∧ (∀ c ∈ z.cps.toList, Bi.Is c) ∧ Q (.int ((Bi.num z.cps.toList : Nat) : Int)) H) := by
  intro ds S H Q' Q vs rh dv h q
  unfold int2F at h
  split at h
  · rename_i z
    match vs, dv with
    | [_, _], .cons (.str _) (.cons (.int _) .nil) => exact ⟨z, rfl, h.1, h.2.1, h.2.2.1, q.here rh (.int _) h.2.2.2⟩
  · exact h.elim
end
/-! ### for c in a text -/
def signsD (z : Str) : List D := z.cps.toList.map fun c => .str ⟨#[c]⟩
def strD (x : D) (S1 : Hq) (R : List D → (Hq → Prop) → Hq → Prop) : Prop := match x with
  | .str z => R (signsD z) (fun _ => True) S1
  | _ => False
def iStrD (r : RE) : RI := fun σ S R E => r σ S (fun x S1 => strD x S1 R) E
theorem it_str {K : PySem.W.Frag} {S1 : Hq} {H1 : Hp} {z : Str} : ItOk K S1 H1 (Its z) (signsD z) (fun _ => True) := by
  refine ⟨fun S H f rh _ => ?_, fun i x S H hx f rh _ => ?_, fun i x S H v H' hx f rh _ hy => ?_⟩
  · show z.cps.size ≤ _
    unfold signsD; rw [List.length_map, Array.length_toList]; exact Nat.le_refl _
  · have := (List.getElem?_eq_some_iff.mp hx).1
    unfold signsD at this
    rw [List.length_map, Array.length_toList] at this
    exact this
  · obtain ⟨rfl, c, hc, rfl⟩ := hy
    unfold signsD at hx
    rw [List.getElem?_map, Array.getElem?_toList, hc] at hx
    cases hx
    exact ⟨Fr.refl, rh, .str _⟩
section
variable {X : Cx} {W : WX} {e : Expr} {r : RE} {pos : Pos}
theorem ei_str {tg : Expr} (h : EV X W e r) : EI X W tg e (iStrD r) := by
  obtain ⟨T, p, l⟩ := h.ex
  refine ⟨_, pi_str p, fun σ σ' H S R R' E' rs rh h q xi => ?_⟩
  refine l σ σ' H S _ _ _ rs rh h (fun x S1 v H1 f1 rh1 dv h1 => ?_) xi
  cases dv with
  | str z => exact ⟨z, rfl, q _ _ _ _ _ f1 rh1 it_str h1⟩
  | _ => exact h1.elim
/-! ### xs[::-1] -/
def revD (x : D) (S : Hq) (Q : Qv) : Prop := match x with
  | .ref a => ∃ xs, LsR S a xs ∧ ∀ p, S p = none → Q (.ref p) (up S p (.lst xs.reverse))
  | _ => False
theorem DVs.rev {K : PySem.W.Frag} {H : Hp} : ∀ {ds : List D} {vs : List V}, DVs K H ds vs → DVs K H ds.reverse vs.reverse
  | _, _, .nil => .nil
  | _, _, .cons x r => by rw [List.reverse_cons, List.reverse_cons]; exact (DVs.rev r).app (.cons x .nil)
theorem ev_rev {k : Nat} {p1 p2 p3 : Pos} (h : EV X W e r) : EV X W (.Subscript e (.Slice none none (some (.UnaryOp .USub (.Constant (.int 1) k p1) p2)) p3) pos) (rUn revD r) := by
  obtain ⟨T, p, l⟩ := h.ex
  refine ⟨_, pe_revL p, fun σ σ' H S Q Q' E' rs rh h q xi => ?_⟩
  refine l σ σ' H S _ _ _ rs rh h (fun x S1 v H1 f1 rh1 dv h1 => ?_) xi
  cases dv with
  | ref a =>
    obtain ⟨xs, g, h1⟩ := h1
    obtain ⟨vs, s, r⟩ := rh1.sql g
    refine ⟨a, vs, rfl, s, fun p hp => ?_⟩
    exact (q.go f1).newL rh1 hp (DVs.rev r) (h1 p (rh1.fresh hp))
  | _ => exact h1.elim
end
/-! ### xs.index(t) of texts -/
def ixoD (x : D) (ds : List D) (S : Hq) (Q : Qv) : Prop := match x, ds with
  | .ref a, [.str z] => ∃ (zs : List Str) (j : Nat), LsR S a (zs.map D.str) ∧ zs[j]? = some z ∧ (∀ m, m < j → zs[m]? ≠ some z) ∧ Q (.int j) S
  | _, _ => False
theorem DVs.txts {K : PySem.W.Frag} {H : Hp} : ∀ {zs : List Str} {vs : List V}, DVs K H (zs.map D.str) vs → vs = zs.map V.str
  | [], _, .nil => rfl
  | _ :: _, _, .cons x r => by cases x; rw [DVs.txts r]; rfl
theorem lm_ixo {K : PySem.W.Frag} : LiftM K ixoD (rIndex K) := by
  intro x ds S H Q' Q v vs rh dx dv h q
  match x, ds, dx, dv, h with
  | .ref a, [.str z], .ref _, .cons (.str _) .nil, h =>
    obtain ⟨zs, j, l, e, n, h⟩ := h
    obtain ⟨ys, s, r⟩ := rh.sql l
    rw [DVs.txts r] at s
    refine ⟨a, _, .str z, j, .str z, rfl, rfl, s, rfl, ?_, by rw [List.getElem?_map, e]; rfl, ?_, fun m z' hm hz => ?_, q.here rh (.int _) h⟩
    · rw [List.all_eq_true]; intro y hy; obtain ⟨t, _, rfl⟩ := List.mem_map.mp hy; rfl
    · simp [eqV]
    · rw [List.getElem?_map] at hz
      cases g : zs[m]? with
      | none => rw [g] at hz; cases hz
      | some t =>
        rw [g] at hz; cases hz
        have : t ≠ z := fun c => n m hm (by rw [g, c])
        simp [eqV, this]
end Y
namespace Y
open PySem PySem.Spec PyProof.Rows L2
section
variable {S : Hq} {Q : Qv} {z : Str} {p : Addr} {xs : List D} {R : List D → (Hq → Prop) → Hq → Prop}
theorem q_int2 : int2F [.str z, .int 2] S Q = (z.cps.toList ≠ [] ∧ z.length ≤ 640 ∧ (∀ c ∈ z.cps.toList, Bi.Is c) ∧ Q (.int ((Bi.num z.cps.toList : Nat) : Int)) S) := rfl
theorem q_strD : strD (.str z) S R = R (signsD z) (fun _ => True) S := rfl
theorem q_rev (h : S p = some (.lst xs)) : revD (.ref p) S Q = (∀ q, S q = none → Q (.ref q) (up S q (.lst xs.reverse))) := by
  unfold revD LsR
  simp only [h, Option.some.injEq, HQ.lst.injEq, exists_eq_left']
theorem q_ixo : ixoD (.ref p) [.str z] S Q = (∃ (zs : List Str) (j : Nat), S p = some (.lst (zs.map D.str)) ∧ zs[j]? = some z ∧ (∀ m, m < j → zs[m]? ≠ some z) ∧ Q (.int j) S) := rfl
end
end Y
/-! ### xs.extend(t) -/
namespace Y
open PySem PySem.Spec PyProof.Rows L2
section
open PySem.AutoSeq1
theorem ext_tup {l b : Addr} {xs ys : Array Value} {n m : Nat} {dd : Option Addr} {sl : Array (Option Value)} (h0 : ¬(!xs.isEmpty && Builtin.List.listTooLong (xs.size + ys.size)) = true) (h1 : xs.size ≤ sizeLine) (h2 : (xs ++ ys).size ≤ sizeLine + 1) :
    Meets (Builtin.«list.extend» ⟨[.ref l, .ref b], []⟩) (fun _ R s => s.heap.get? l = some { cls := .type "list", dict := none, data := .seq xs n, slots := #[] } ∧ s.heap.get? b = some ⟨.type "tuple", dd, .seq ys m, sl⟩ ∧ R (.ok (.ret .none)) { s with heap := s.heap.update l (Obj.mapSeq (· ++ ys)), toks := s.toks }) :=
  .of_wp fun prog w A R s ⟨hl, hb, h⟩ => by
    obtain ⟨hp, g, d, tk, os⟩ := s
    have f1 := idx_int
    have f2 := AutoSeq1.sub_tuple_tuple; have f3 := AutoSeq1.sub_list_list; have f4 := AutoSeq1.sub_tuple_list
    have f5 := AutoSeq1.sub_list_tuple
    wp_walk using (wpAny_updateSeq hl rfl (hz := h1) (_hz' := h2)), wpAny_loadPart' hb, wpAny_loadPart' hl
    exact ⟨_, rfl, h⟩
end
def rExtT (K : PySem.W.Frag) : V → List V → Hp → VK → Prop := fun x vs H Q => ∃ (l b : Addr) (xs zs : List V), x = .ref l ∧ vs = [.ref b] ∧ H l = some (.lst xs) ∧ SqT K H b zs ∧ xs.length + zs.length ≤ sizeLine ∧ Q .non (upd H l (.lst (xs ++ zs)))
section
variable {X : Cx} {K : PySem.W.Frag}
theorem mt_extT : MtM X "list.extend" (rExtT X.K) := by
  intro pins s σ H x vs v us Q I rx rv h
  obtain ⟨l, b, xs, zs, rfl, rfl, hH, hB, hz, q⟩ := h
  cases rx
  obtain ⟨u, rfl, ru⟩ := rv.one
  cases ru
  obtain ⟨z, its, n, r, hl, e⟩ := I.lstM hH
  obtain ⟨its2, r2, ⟨⟨oc, od, dt, sl⟩, g, c, m, dq⟩, _⟩ := I.tuple hB
  simp only at c dq
  subst c dq
  have n1 := r.length; have n2 := r2.length
  have hsz : its.toArray.size + its2.toArray.size ≤ sizeLine := by rw [List.size_toArray, List.size_toArray]; omega
  have long : ¬(!its.toArray.isEmpty && Builtin.List.listTooLong (its.toArray.size + its2.toArray.size)) = true := by rw [notLongL hsz, Bool.and_false]; exact Bool.false_ne_true
  refine call_meets F.slot_list_extend ⟨_, e, rfl⟩ F.entry_list_extend (F.args_list_extend_2 _ _) (ext_tup (n := n) long (by omega) (by rw [Array.size_append]; omega)) ⟨e, g, .non, _, I.lset (its' := its ++ its2) hH e (by simp) (r.append r2) ?_, rfl, q⟩
  rw [List.length_append]; omega
theorem mt_ext2 : MtM X "list.extend" (fun x vs H Q => rExtend x vs H Q ∨ rExtT X.K x vs H Q) := by
  intro pins s σ H x vs v us Q I rx rv h
  rcases h with h | h
  · exact mt_extend _ _ _ _ _ _ _ _ _ I rx rv h
  · exact mt_extT _ _ _ _ _ _ _ _ _ I rx rv h
def extD2 (x : D) (ds : List D) (S : Hq) (Q : Qv) : Prop := match x, ds with
  | .ref a, [.tup ys] => ∃ xs, S a = some (.lst xs) ∧ xs.length + ys.length ≤ 1000000 ∧ Q .non (up S a (.lst (xs ++ ys)))
  | x, ds => extD x ds S Q
theorem lm_ext2 : LiftM K extD2 (fun x vs H Q => rExtend x vs H Q ∨ rExtT K x vs H Q) := by
  intro x ds S H Q' Q v vs rh dx dv h q
  unfold extD2 at h
  split at h
  · rename_i a ys
    match v, vs, dx, dv with
    | _, _, .ref _, .cons (.tup sq dy) .nil =>
      obtain ⟨xs, e, hz, h⟩ := h
      obtain ⟨us, g, r⟩ := rh.lst e
      exact .inr ⟨_, _, us, _, rfl, rfl, g, sq, by rw [← r.length, ← dy.length]; exact big_le hz, q.putL rh e (r.app dy) .non h⟩
  · exact .inl (lm_ext _ _ _ _ _ _ _ _ rh dx dv h q)
end
theorem q_ext2 {S : Hq} {Q : Qv} {p q : Addr} : extD2 (.ref p) [.ref q] S Q = extD (.ref p) [.ref q] S Q := rfl
theorem q_extT {S : Hq} {Q : Qv} {p : Addr} {ys : List D} : extD2 (.ref p) [.tup ys] S Q = (∃ xs, S p = some (.lst xs) ∧ xs.length + ys.length ≤ 1000000 ∧ Q .non (up S p (.lst (xs ++ ys)))) := rfl
end Y
namespace K07
open PySem PySem.Spec PyProof.Rows L2 Y

instance : DecidablePred Bi.Is := fun c => inferInstanceAs (Decidable (c = 48 ∨ c = 49))
def Le (S S' : Hq) : Prop := ∀ a o, S a = some o → S' a = some o
theorem Le.refl {S : Hq} : Le S S := fun _ _ h => h
theorem Le.trans {S S1 S2 : Hq} (x : Le S S1) (y : Le S1 S2) : Le S S2 := fun a o h => y a o (x a o h)
theorem Le.new {S : Hq} {p : Addr} {q : HQ} (h : S p = none) : Le S (up S p q) := fun a o e => up_get h e
theorem Le.put {S S' : Hq} {p : Addr} {q : HQ} (l : Le S S') (h : S p = Option.none) : Le S (up S' p q) := fun a o e => by rw [up_ne (ne_get e h)]; exact l a o e
theorem q_and {i j : Int} {S : Hq} {Q : Qv} : andD (.int i) (.int j) S Q = (True ∧ Q (.int (Builtin.bitAnd i j)) S) := rfl
theorem and127 {w : Int} (h : 0 ≤ w) : Builtin.bitAnd w 127 = w % 128 := by
  obtain ⟨n, rfl⟩ := Int.eq_ofNat_of_zero_le h
  have e : Builtin.bitAnd (n : Int) 127 = ((n &&& 127 : Nat) : Int) := by
    unfold Builtin.bitAnd
    rw [decide_eq_true h]
    rfl
  rw [e, show (127 : Nat) = 2 ^ 7 - 1 from rfl, Nat.and_two_pow_sub_one_eq_mod]
  omega
def gI : Nat → Int → List Int
  | 0, w => [w]
  | k + 1, w => if w < 128 then [w] else (w % 128 + 128) :: gI k (w / 128)
theorem gI_one {k : Nat} {w : Int} (h : w < 128) : gI k w = [w] := by cases k with | zero => rfl | succ k => exact if_pos h
theorem gI_more {k : Nat} {w : Int} (h : 128 ≤ w) : gI (k + 1) w = (w % 128 + 128) :: gI k (w / 128) := if_neg (by omega)
theorem gI_len : ∀ {k : Nat} {w : Int}, (gI k w).length ≤ k + 1
  | 0, _ => Nat.le_refl _
  | k + 1, w => by
    unfold gI
    split
    · simp
    · rw [List.length_cons]; have := gI_len (k := k) (w := w / 128); omega
def zz (e : Int) : Int := if e ≥ 0 then 2 * e else -2 * e - 1
def numO : Option (List Int) → List Int
  | none => [0]
  | some [] => [0]
  | some (n :: r) => ((r.length + 1 : Nat) : Int) :: (gI 99 n ++ (r.map fun e => gI 99 (zz e)).flatten)
def plI (z : Str) : Int := ((Bi.num (49 :: z.cps.toList) : Nat) : Int)
inductive Lt where
  | rep (z : Str) (s : Int) (o : Option (List Int))
  | ack (z : Str) (s : Int)
  | mail (z : Str) (b : List Int)
def letD : Lt → D
  | .rep z s o => .tup [.str (Str.ofString "report"), .str z, .int s, ofO o]
  | .ack z s => .tup [.str (Str.ofString "ack"), .str z, .int s]
  | .mail z b => .tup [.str (Str.ofString "mail"), .str z, .tup (b.map D.int)]
def formL : Lt → List Int
  | .rep z s o => 0 :: plI z :: (gI 99 s ++ numO o)
  | .ack z s => 1 :: plI z :: gI 99 s
  | .mail z b => 2 :: plI z :: (b.length : Int) :: b
def SgOk (z : Str) : Prop := z.length ≤ 100 ∧ ∀ c ∈ z.cps.toList, Bi.Is c
def NuOk (ns : List Int) : Prop := ∃ n r, ns = n :: r ∧ 0 ≤ n ∧ n < 2 ^ 60 ∧ r.length ≤ 14 ∧ ∀ e ∈ r, -(2 ^ 60) < e ∧ e < 2 ^ 60
def LtOk : Lt → Prop
  | .rep z s o => SgOk z ∧ 0 ≤ s ∧ s < 2 ^ 62 ∧ ∀ ns, o = some ns → NuOk ns
  | .ack z s => SgOk z ∧ 0 ≤ s ∧ s < 2 ^ 62
  | .mail z b => SgOk z ∧ b.length ≤ 100

def sg (z : String) : Str := Str.ofString z
def edgesL : List Lt :=
  [.ack (sg "") 1, .ack (sg "111111") 127, .ack (sg "0") 128, .ack (sg "1") 16383, .ack (sg "01") 16384, .mail (sg "000000") [], .mail (sg "111111") (List.replicate 40 255), .rep (sg "") 1 none,
   .rep (sg "0") (10 ^ 12) (some [0, 0]), .rep (sg "10") 1 (some [10 ^ 12, 0 - 10 ^ 12, 10 ^ 12, 31]), .rep (sg "000000") 129 (some [127, 63, 64, -64, -65, 8191, 8192, -8192, -8193, -1, 1, 0, 0, 30])]
def sp_law_edges : Sq := fun ds S Q _ => ds = [] ∧ ∀ p S', Le S S' → S p = none → S' p = some (.lst (edgesL.map letD)) → Q (.ref p) S'
theorem ln_law_edges : ∀ ds S Q E, sp_law_edges ds S Q E → ds.length = 0 := by rintro _ _ _ _ ⟨rfl, _⟩; rfl
theorem nx_law_edges : ∀ ds S Q E, sp_law_edges ds S Q E → sp_law_edges ds S Q NoX := fun _ _ _ _ h => h
theorem nuOk {n : Int} {r : List Int} (h0 : 0 ≤ n) (h1 : n < 2 ^ 60) (h2 : r.length ≤ 14) (h3 : ∀ e ∈ r, -(2 ^ 60) < e ∧ e < 2 ^ 60) : ∀ ns, some (n :: r) = some ns → NuOk ns := fun ns h => by cases h; exact ⟨n, r, rfl, h0, h1, h2, h3⟩
theorem sgOk (z : String) (h : (sg z).length ≤ 100 ∧ ∀ c ∈ (sg z).cps.toList, Bi.Is c) : SgOk (sg z) := h
theorem edges_ok : ∀ l ∈ edgesL, LtOk l := by
  intro l h
  simp only [edgesL, List.mem_cons, List.not_mem_nil, or_false] at h
  rcases h with rfl | rfl | rfl | rfl | rfl | rfl | rfl | rfl | rfl | rfl | rfl
  · exact ⟨sgOk _ (by decide +kernel), by decide, by decide⟩
  · exact ⟨sgOk _ (by decide +kernel), by decide, by decide⟩
  · exact ⟨sgOk _ (by decide +kernel), by decide, by decide⟩
  · exact ⟨sgOk _ (by decide +kernel), by decide, by decide⟩
  · exact ⟨sgOk _ (by decide +kernel), by decide, by decide⟩
  · exact ⟨sgOk _ (by decide +kernel), by decide⟩
  · exact ⟨sgOk _ (by decide +kernel), by decide⟩
  · exact ⟨sgOk _ (by decide +kernel), by decide, by decide, fun _ h => nomatch h⟩
  · exact ⟨sgOk _ (by decide +kernel), by decide, by decide, nuOk (by decide) (by decide) (by decide) (by decide)⟩
  · exact ⟨sgOk _ (by decide +kernel), by decide, by decide, nuOk (by decide) (by decide) (by decide) (by decide)⟩
  · exact ⟨sgOk _ (by decide +kernel), by decide, by decide, nuOk (by decide) (by decide) (by decide) (by decide)⟩

def rd_law_edges : RSt :=
 (rSeq (rSet (rLst (rCons (rTup (rCons (rC (.str (Str.ofString "ack"))) (rCons (rC (.str (Str.ofString ""))) (rCons (rC (.int 1)) rNil)))) (rCons (rTup (rCons (rC (.str (Str.ofString "ack"))) (rCons (rC (.str (Str.ofString "111111"))) (rCons (rC (.int 127)) rNil)))) (rCons (rTup (rCons (rC (.str (Str.ofString "ack"))) (rCons (rC (.str (Str.ofString "0"))) (rCons (rC (.int 128)) rNil)))) (rCons (rTup (rCons (rC (.str (Str.ofString "ack"))) (rCons (rC (.str (Str.ofString "1"))) (rCons (rC (.int 16383)) rNil)))) (rCons (rTup (rCons (rC (.str (Str.ofString "ack"))) (rCons (rC (.str (Str.ofString "01"))) (rCons (rC (.int 16384)) rNil)))) rNil)))))) (gNm 0))
 (rSeq (rDrop (rMt "list" extD2 (rVar 0) (rCons (rLst (rCons (rTup (rCons (rC (.str (Str.ofString "mail"))) (rCons (rC (.str (Str.ofString "000000"))) (rCons (rTup rNil) rNil)))) (rCons (rTup (rCons (rC (.str (Str.ofString "mail"))) (rCons (rC (.str (Str.ofString "111111"))) (rCons (rFn tupF (rCons (rLc (iRg1 (rCons (rC (.int 40)) rNil)) (gNm 1) rYes (rC (.int 255)) [1]) rNil)) rNil)))) (rCons (rTup (rCons (rC (.str (Str.ofString "report"))) (rCons (rC (.str (Str.ofString ""))) (rCons (rC (.int 1)) (rCons (rC .non) rNil))))) rNil)))) rNil)))
 (rSeq (rDrop (rMt "list" extD2 (rVar 0) (rCons (rLst (rCons (rTup (rCons (rC (.str (Str.ofString "report"))) (rCons (rC (.str (Str.ofString "0"))) (rCons (rBin powD (rC (.int 10)) (rC (.int 12))) (rCons (rTup (rCons (rC (.int 0)) (rCons (rC (.int 0)) rNil))) rNil))))) (rCons (rTup (rCons (rC (.str (Str.ofString "report"))) (rCons (rC (.str (Str.ofString "10"))) (rCons (rC (.int 1)) (rCons (rTup (rCons (rBin powD (rC (.int 10)) (rC (.int 12))) (rCons (rBin subD (rC (.int 0)) (rBin powD (rC (.int 10)) (rC (.int 12)))) (rCons (rBin powD (rC (.int 10)) (rC (.int 12))) (rCons (rC (.int 31)) rNil))))) rNil))))) rNil))) rNil)))
 (rSeq (rDrop (rMt "list" appD (rVar 0) (rCons (rTup (rCons (rC (.str (Str.ofString "report"))) (rCons (rC (.str (Str.ofString "000000"))) (rCons (rC (.int 129)) (rCons (rFn tupF (rCons (rBin addD (rBin addD (rLst (rCons (rC (.int 127)) rNil)) (rLst (rCons (rC (.int 63)) (rCons (rC (.int 64)) (rCons (rBin subD (rC (.int 0)) (rC (.int 64))) (rCons (rBin subD (rC (.int 0)) (rC (.int 65))) (rCons (rC (.int 8191)) (rCons (rC (.int 8192)) (rCons (rBin subD (rC (.int 0)) (rC (.int 8192))) (rCons (rBin subD (rC (.int 0)) (rC (.int 8193))) (rCons (rBin subD (rC (.int 0)) (rC (.int 1))) (rCons (rC (.int 1)) (rCons (rC (.int 0)) (rCons (rC (.int 0)) rNil)))))))))))))) (rLst (rCons (rC (.int 30)) rNil))) rNil)) rNil))))) rNil)))
 (rRet (rVar 0))))))

theorem pu_law_edges : ∀ ds S Q, sp_law_edges ds S Q NoX → rd_law_edges { nx := fun _ S => Q .non S, rt := Q } (start' 2 ds) S := by

  rintro _ S Q ⟨rfl, k⟩
  unfold rd_law_edges
  simp only [rVar, rC, rBin, rUn, rTst, rChn, rTru, rAnd, rOr, rNot, rAndV, rOrV, rNotV, rIf, rNil, rCons, rTup, rLst, rFn, rCall, rCallK, rSl, rPrt, rNoP, rMt, gNm, q_gN, q_gC, q_gTp, gSb, rNext, rSeq, rDrop, rRet, rRetN, rBrk, rCnt, rIfS, rSet, rPar, rFor, iSeq, iLst, iRg1, iRg2, iZp, iEn, iStrD, rLc, rYes, q_isi2, q_i2N, q_i2B, q_i2I, q_i2S, q_i2T, q_i2L, q_j2N, q_j2B, q_j2I, q_j2S, q_j2T, q_j2L, q_gt2, q_gtT, q_en, q_int2, q_strD, q_rev, q_ixo, q_ext2, q_extT, En.x, wipeD, start', List.getElem?_cons_zero, List.getElem?_cons_succ, List.set_cons_zero, List.set_cons_succ, List.map_cons, List.map_nil, List.length_cons, List.length_nil, List.cons_append, List.nil_append, List.replicate_succ, List.replicate_zero, id, q_asB, q_asI, q_add, q_addS, q_addT, q_addL, q_int, q_sub, q_mul, q_fdiv, q_mod, q_pow, q_neg, q_le, q_ge, q_gt, q_lt, q_ltT, q_isN, q_isB, q_isBi, q_isBs, q_isBn, q_isBt, q_isnt, n_non, n_bl, n_int, n_str, n_tup, n_ref, q_eq, q_eqS, q_eqB, q_ixT, q_ixK, q_ixL, q_ixS, q_slT, q_slL, q_slS, q_set, q_lenT, q_lenK, q_lenS, q_lenL, q_abs, q_intF, q_max, q_min, q_tupT, q_tupL, q_lstT, q_lstL, q_app, q_ext, q_joinL, q_stw, q_seq, q_lst, q_rng, q_rng2, q_zpT, q_zpL, q_truN, q_truB, q_truI, q_truT, q_truL, t_non, t_bl, t_int, t_str, t_tup, q_isiN, q_isiB, q_isiI, q_isiS, q_isiT, i_NoneType_int, i_NoneType_bool, i_NoneType_tuple, i_NoneType_list, i_NoneType_str, i_bool_int, i_bool_bool, i_bool_tuple, i_bool_list, i_bool_str, i_int_int, i_int_bool, i_int_tuple, i_int_list, i_int_str, i_str_int, i_str_bool, i_str_tuple, i_str_list, i_str_str, i_tuple_int, i_tuple_bool, i_tuple_tuple, i_tuple_list, i_tuple_str, i_list_int, i_list_bool, i_list_tuple, i_list_list, i_list_str, i_dict_int, i_dict_bool, i_dict_tuple, i_dict_list, i_dict_str, up_same, g_02, g_02', g_01, g_11, at_0, at_1, ix_0, ix_1, Option.some.injEq, HQ.lst.injEq, exists_eq_left', exists_eq_left, exists_and_left, exists_eq', exists_eq, decide_eq_true_eq, if_true, if_false, ite_true, ite_false, Bool.false_eq_true, reduceIte, reduceCtorEq, Bool.not_true, Bool.not_false, Nat.zero_add, Nat.reduceAdd, Nat.reduceSub, Nat.reduceLeDiff, Nat.reduceLT, Int.reduceLT, Int.reduceLE, Int.reduceEq, Int.reduceNe, Nat.reduceEqDiff, Int.reduceToNat, Int.reducePow, Int.reduceMul, Int.reduceAdd, Int.reduceSub, Int.reduceNeg, and_true, true_and, decide_true, decide_false]
  intro p hp
  refine ⟨t_lst up_same, ?_⟩
  refine lc_draw (fun S' => S' = up S p (.lst ((edgesL.take 5).map letD))) (fun d => d = .int 255) (fun _ _ => trivial) _ _ _ (fun x _ S' Q' hi q => ?_) (by simp [rangeD_len]) (by simp) rfl (fun acc S1 hl ha e1 => ?_)
  · exact q _ _ rfl hi
  rw [rangeD_len] at hl
  have e2 : acc = (List.replicate 40 (255 : Int)).map D.int := by
    rw [List.map_replicate]
    exact List.eq_replicate_iff.mpr ⟨by simpa using hl, ha⟩
  subst e1
  intro q hq
  intro p1 hp1
  have cp : CPow' 10 12 := ⟨by decide, by decide, by decide, by decide⟩
  refine ⟨_, up_get hp1 (up_get hq up_same), Nat.le_trans (m := 5) (Nat.le_of_eq rfl) (by decide), t_lst up_same, cp, cp, cp, cp, fun p2 hp2 => ⟨_, up_get hp2 up_same, Nat.le_trans (m := 8) (Nat.le_of_eq rfl) (by decide), t_lst up_same, ?_⟩⟩
  intro p3 hp3 p4 hp4
  refine ⟨_, up_get hp4 up_same, by simp, fun p5 hp5 p6 hp6 => ?_⟩
  refine ⟨_, up_get hp6 up_same, by simp, fun p7 hp7 => ?_⟩
  refine ⟨_, up_get hp7 (up_get hp6 (up_get hp5 (up_get hp4 (up_get hp3 up_same)))), Nat.lt_of_le_of_lt (m := 10) (Nat.le_of_eq rfl) (by decide), ?_⟩
  refine k p _ ?_ hp (by rw [up_same, e2]; rfl)
  exact Le.put (Le.trans (Le.trans (Le.trans (Le.trans (Le.trans (Le.put (Le.trans (Le.put (Le.trans (Le.trans (Le.new hp) (Le.new hq)) (Le.new hp1)) hp) (Le.new hp2)) hp) (Le.new hp3)) (Le.new hp4)) (Le.new hp5)) (Le.new hp6)) (Le.new hp7)) hp

def sp_law_box : Sq := fun ds S Q _ => ∃ (ns : List Int) (k : Int), ds = [.kl (ns.map D.int), .int k] ∧ ns.length ≤ 63 ∧ 0 ≤ k ∧ k < 1000 ∧ ∀ p g s, S p = none → Q (.ref p) (up S p (.lst [.int g, .int s]))
theorem ln_law_box : ∀ ds S Q E, sp_law_box ds S Q E → ds.length = 2 := by rintro _ _ _ _ ⟨b, n, rfl, _⟩; rfl
theorem nx_law_box : ∀ ds S Q E, sp_law_box ds S Q E → sp_law_box ds S Q NoX := fun _ _ _ _ h => h

def rd_law_box : RSt :=
 (rSeq (rSet (rBin addD (rBin mulD (rC (.int 17033)) (rVar 1)) (rC (.int 9203))) (gNm 2))
 (rSeq (rIfS (rTst (rBin ltD (rVar 1) (rFn lenD (rCons (rVar 0) rNil))))
 (rSet (rFn absD (rCons (rFn intF (rCons (rBin ixD (rVar 0) (rVar 1)) rNil)) rNil)) (gNm 2))
 (rIfS (rTst (rBin gtD2 (rFn lenD (rCons (rVar 0) rNil)) (rC (.int 0))))
 (rSet (rBin addD (rVar 2) (rBin mulD (rBin modD (rFn intF (rCons (rFn absD (rCons (rFn intF (rCons (rBin ixD (rVar 0) (rBin modD (rFn intF (rCons (rVar 1) rNil)) (rFn lenD (rCons (rVar 0) rNil)))) rNil)) rNil)) rNil)) (rC (.int 2147483563))) (rC (.int 88001)))) (gNm 2))
 rNext))
 (rSeq (rSet (rIf (rTst (rBin geD (rVar 2) (rBin powD (rC (.int 10)) (rC (.int 18))))) (rVar 2) (rC (.int 0))) (gNm 3))
 (rRet (rLst (rCons (rVar 3) (rCons (rBin addD (rBin modD (rFn intF (rCons (rBin addD (rBin mulD (rBin modD (rFn intF (rCons (rVar 2) rNil)) (rC (.int 2147483563))) (rC (.int 54250003))) (rBin mulD (rC (.int 9203)) (rVar 1))) rNil)) (rC (.int 2147483563))) (rC (.int 1))) rNil)))))))

theorem pu_law_box : ∀ ds S Q, sp_law_box ds S Q NoX → rd_law_box { nx := fun _ S => Q .non S, rt := Q } (start' 4 ds) S := by

  rintro _ S Q ⟨ns, k, rfl, hl, hk0, hk1, q⟩
  unfold rd_law_box
  simp only [rVar, rC, rBin, rUn, rTst, rChn, rTru, rAnd, rOr, rNot, rAndV, rOrV, rNotV, rIf, rNil, rCons, rTup, rLst, rFn, rCall, rCallK, rSl, rPrt, rNoP, rMt, gNm, q_gN, q_gC, q_gTp, gSb, rNext, rSeq, rDrop, rRet, rRetN, rBrk, rCnt, rIfS, rSet, rPar, rFor, iSeq, iLst, iRg1, iRg2, iZp, iEn, iStrD, rLc, rYes, q_isi2, q_i2N, q_i2B, q_i2I, q_i2S, q_i2T, q_i2L, q_j2N, q_j2B, q_j2I, q_j2S, q_j2T, q_j2L, q_gt2, q_gtT, q_en, q_int2, q_strD, q_rev, q_ixo, q_ext2, q_extT, En.x, wipeD, start', List.getElem?_cons_zero, List.getElem?_cons_succ, List.set_cons_zero, List.set_cons_succ, List.map_cons, List.map_nil, List.length_cons, List.length_nil, List.cons_append, List.nil_append, List.replicate_succ, List.replicate_zero, id, q_asB, q_asI, q_add, q_addS, q_addT, q_addL, q_int, q_sub, q_mul, q_fdiv, q_mod, q_pow, q_neg, q_le, q_ge, q_gt, q_lt, q_ltT, q_isN, q_isB, q_isBi, q_isBs, q_isBn, q_isBt, q_isnt, n_non, n_bl, n_int, n_str, n_tup, n_ref, q_eq, q_eqS, q_eqB, q_ixT, q_ixK, q_ixL, q_ixS, q_slT, q_slL, q_slS, q_set, q_lenT, q_lenK, q_lenS, q_lenL, q_abs, q_intF, q_max, q_min, q_tupT, q_tupL, q_lstT, q_lstL, q_app, q_ext, q_joinL, q_stw, q_seq, q_lst, q_rng, q_rng2, q_zpT, q_zpL, q_truN, q_truB, q_truI, q_truT, q_truL, t_non, t_bl, t_int, t_str, t_tup, q_isiN, q_isiB, q_isiI, q_isiS, q_isiT, i_NoneType_int, i_NoneType_bool, i_NoneType_tuple, i_NoneType_list, i_NoneType_str, i_bool_int, i_bool_bool, i_bool_tuple, i_bool_list, i_bool_str, i_int_int, i_int_bool, i_int_tuple, i_int_list, i_int_str, i_str_int, i_str_bool, i_str_tuple, i_str_list, i_str_str, i_tuple_int, i_tuple_bool, i_tuple_tuple, i_tuple_list, i_tuple_str, i_list_int, i_list_bool, i_list_tuple, i_list_list, i_list_str, i_dict_int, i_dict_bool, i_dict_tuple, i_dict_list, i_dict_str, up_same, g_02, g_02', g_01, g_11, at_0, at_1, ix_0, ix_1, Option.some.injEq, HQ.lst.injEq, exists_eq_left', exists_eq_left, exists_and_left, exists_eq', exists_eq, decide_eq_true_eq, if_true, if_false, ite_true, ite_false, Bool.false_eq_true, reduceIte, reduceCtorEq, Bool.not_true, Bool.not_false, Nat.zero_add, Nat.reduceAdd, Nat.reduceSub, Nat.reduceLeDiff, Nat.reduceLT, Int.reduceLT, Int.reduceLE, Int.reduceEq, Int.reduceNe, Nat.reduceEqDiff, Int.reduceToNat, Int.reducePow, Int.reduceMul, Int.reduceAdd, Int.reduceSub, Int.reduceNeg, and_true, true_and, decide_true, decide_false, List.length_map]
  have hn : (0 : Int) ≤ ns.length := by omega
  refine ⟨cm_l (by decide) (by decide), ?_⟩
  split
  · rename_i h
    obtain ⟨n, _, e, _⟩ := at_ints hk0 h
    simp only [rVar, rC, rBin, rUn, rTst, rChn, rTru, rAnd, rOr, rNot, rAndV, rOrV, rNotV, rIf, rNil, rCons, rTup, rLst, rFn, rCall, rCallK, rSl, rPrt, rNoP, rMt, gNm, q_gN, q_gC, q_gTp, gSb, rNext, rSeq, rDrop, rRet, rRetN, rBrk, rCnt, rIfS, rSet, rPar, rFor, iSeq, iLst, iRg1, iRg2, iZp, iEn, iStrD, rLc, rYes, q_isi2, q_i2N, q_i2B, q_i2I, q_i2S, q_i2T, q_i2L, q_j2N, q_j2B, q_j2I, q_j2S, q_j2T, q_j2L, q_gt2, q_gtT, q_en, q_int2, q_strD, q_rev, q_ixo, q_ext2, q_extT, En.x, wipeD, start', List.getElem?_cons_zero, List.getElem?_cons_succ, List.set_cons_zero, List.set_cons_succ, List.map_cons, List.map_nil, List.length_cons, List.length_nil, List.cons_append, List.nil_append, List.replicate_succ, List.replicate_zero, id, q_asB, q_asI, q_add, q_addS, q_addT, q_addL, q_int, q_sub, q_mul, q_fdiv, q_mod, q_pow, q_neg, q_le, q_ge, q_gt, q_lt, q_ltT, q_isN, q_isB, q_isBi, q_isBs, q_isBn, q_isBt, q_isnt, n_non, n_bl, n_int, n_str, n_tup, n_ref, q_eq, q_eqS, q_eqB, q_ixT, q_ixK, q_ixL, q_ixS, q_slT, q_slL, q_slS, q_set, q_lenT, q_lenK, q_lenS, q_lenL, q_abs, q_intF, q_max, q_min, q_tupT, q_tupL, q_lstT, q_lstL, q_app, q_ext, q_joinL, q_stw, q_seq, q_lst, q_rng, q_rng2, q_zpT, q_zpL, q_truN, q_truB, q_truI, q_truT, q_truL, t_non, t_bl, t_int, t_str, t_tup, q_isiN, q_isiB, q_isiI, q_isiS, q_isiT, i_NoneType_int, i_NoneType_bool, i_NoneType_tuple, i_NoneType_list, i_NoneType_str, i_bool_int, i_bool_bool, i_bool_tuple, i_bool_list, i_bool_str, i_int_int, i_int_bool, i_int_tuple, i_int_list, i_int_str, i_str_int, i_str_bool, i_str_tuple, i_str_list, i_str_str, i_tuple_int, i_tuple_bool, i_tuple_tuple, i_tuple_list, i_tuple_str, i_list_int, i_list_bool, i_list_tuple, i_list_list, i_list_str, i_dict_int, i_dict_bool, i_dict_tuple, i_dict_list, i_dict_str, up_same, g_02, g_02', g_01, g_11, at_0, at_1, ix_0, ix_1, Option.some.injEq, HQ.lst.injEq, exists_eq_left', exists_eq_left, exists_and_left, exists_eq', exists_eq, decide_eq_true_eq, if_true, if_false, ite_true, ite_false, Bool.false_eq_true, reduceIte, reduceCtorEq, Bool.not_true, Bool.not_false, Nat.zero_add, Nat.reduceAdd, Nat.reduceSub, Nat.reduceLeDiff, Nat.reduceLT, Int.reduceLT, Int.reduceLE, Int.reduceEq, Int.reduceNe, Nat.reduceEqDiff, Int.reduceToNat, Int.reducePow, Int.reduceMul, Int.reduceAdd, Int.reduceSub, Int.reduceNeg, and_true, true_and, decide_true, decide_false, e]
    refine ⟨⟨by decide, by decide, by decide, by decide⟩, ?_⟩
    (repeat' split) <;> exact ⟨cm_r (by decide) (by decide), cm_l (by decide) (by decide), fun p hp => q p _ _ hp⟩
  · split
    · rename_i h
      obtain ⟨n, _, e, _⟩ := at_ints (Int.emod_nonneg k (by omega)) (Int.emod_lt_of_pos k h)
      refine ⟨h, ?_⟩
      simp only [rVar, rC, rBin, rUn, rTst, rChn, rTru, rAnd, rOr, rNot, rAndV, rOrV, rNotV, rIf, rNil, rCons, rTup, rLst, rFn, rCall, rCallK, rSl, rPrt, rNoP, rMt, gNm, q_gN, q_gC, q_gTp, gSb, rNext, rSeq, rDrop, rRet, rRetN, rBrk, rCnt, rIfS, rSet, rPar, rFor, iSeq, iLst, iRg1, iRg2, iZp, iEn, iStrD, rLc, rYes, q_isi2, q_i2N, q_i2B, q_i2I, q_i2S, q_i2T, q_i2L, q_j2N, q_j2B, q_j2I, q_j2S, q_j2T, q_j2L, q_gt2, q_gtT, q_en, q_int2, q_strD, q_rev, q_ixo, q_ext2, q_extT, En.x, wipeD, start', List.getElem?_cons_zero, List.getElem?_cons_succ, List.set_cons_zero, List.set_cons_succ, List.map_cons, List.map_nil, List.length_cons, List.length_nil, List.cons_append, List.nil_append, List.replicate_succ, List.replicate_zero, id, q_asB, q_asI, q_add, q_addS, q_addT, q_addL, q_int, q_sub, q_mul, q_fdiv, q_mod, q_pow, q_neg, q_le, q_ge, q_gt, q_lt, q_ltT, q_isN, q_isB, q_isBi, q_isBs, q_isBn, q_isBt, q_isnt, n_non, n_bl, n_int, n_str, n_tup, n_ref, q_eq, q_eqS, q_eqB, q_ixT, q_ixK, q_ixL, q_ixS, q_slT, q_slL, q_slS, q_set, q_lenT, q_lenK, q_lenS, q_lenL, q_abs, q_intF, q_max, q_min, q_tupT, q_tupL, q_lstT, q_lstL, q_app, q_ext, q_joinL, q_stw, q_seq, q_lst, q_rng, q_rng2, q_zpT, q_zpL, q_truN, q_truB, q_truI, q_truT, q_truL, t_non, t_bl, t_int, t_str, t_tup, q_isiN, q_isiB, q_isiI, q_isiS, q_isiT, i_NoneType_int, i_NoneType_bool, i_NoneType_tuple, i_NoneType_list, i_NoneType_str, i_bool_int, i_bool_bool, i_bool_tuple, i_bool_list, i_bool_str, i_int_int, i_int_bool, i_int_tuple, i_int_list, i_int_str, i_str_int, i_str_bool, i_str_tuple, i_str_list, i_str_str, i_tuple_int, i_tuple_bool, i_tuple_tuple, i_tuple_list, i_tuple_str, i_list_int, i_list_bool, i_list_tuple, i_list_list, i_list_str, i_dict_int, i_dict_bool, i_dict_tuple, i_dict_list, i_dict_str, up_same, g_02, g_02', g_01, g_11, at_0, at_1, ix_0, ix_1, Option.some.injEq, HQ.lst.injEq, exists_eq_left', exists_eq_left, exists_and_left, exists_eq', exists_eq, decide_eq_true_eq, if_true, if_false, ite_true, ite_false, Bool.false_eq_true, reduceIte, reduceCtorEq, Bool.not_true, Bool.not_false, Nat.zero_add, Nat.reduceAdd, Nat.reduceSub, Nat.reduceLeDiff, Nat.reduceLT, Int.reduceLT, Int.reduceLE, Int.reduceEq, Int.reduceNe, Nat.reduceEqDiff, Int.reduceToNat, Int.reducePow, Int.reduceMul, Int.reduceAdd, Int.reduceSub, Int.reduceNeg, and_true, true_and, decide_true, decide_false, e]
      refine ⟨cm_r (by decide) (by decide), ⟨by decide, by decide, by decide, by decide⟩, ?_⟩
      (repeat' split) <;> exact ⟨cm_r (by decide) (by decide), cm_l (by decide) (by decide), fun p hp => q p _ _ hp⟩
    · refine ⟨⟨by decide, by decide, by decide, by decide⟩, ?_⟩
      (repeat' split) <;> exact ⟨cm_r (by decide) (by decide), cm_l (by decide) (by decide), fun p hp => q p _ _ hp⟩


def sp_law_same (n : Nat) : Sq := fun ds S Q _ => ∃ d, ds = [d, d] ∧ Pn n d ∧ Q (.bl true) S
theorem ln_law_same : ∀ n ds S Q E, sp_law_same n ds S Q E → ds.length = 2 := by rintro _ _ _ _ _ ⟨b, rfl, _⟩; rfl
theorem nx_law_same : ∀ n ds S Q E, sp_law_same n ds S Q E → sp_law_same n ds S Q NoX := fun _ _ _ _ _ h => h
theorem zr_law_same : ∀ ds S Q E, sp_law_same 0 ds S Q E → False := by rintro _ _ _ _ ⟨b, rfl, h, _⟩; exact h

def rd_law_same (self : Sq) : RSt :=
 (rSeq (rIfS (rOr (rTst (rFn isi2D (rCons (rVar 1) (rCons (rC (.ty "tuple")) rNil)))) (rTst (rFn isi2D (rCons (rVar 1) (rCons (rC (.ty "list")) rNil)))))
 (rSeq (rSet (rIf (rTst (rFn isi2D (rCons (rVar 1) (rCons (rC (.ty "tuple")) rNil)))) (rFn isi2D (rCons (rVar 0) (rCons (rC (.ty "tuple")) rNil))) (rFn isi2D (rCons (rVar 0) (rCons (rC (.ty "list")) rNil)))) (gNm 2))
 (rSeq (rIfS (rOr (rNot (rTru (rVar 2))) (rTst (rBin (eqD not) (rFn lenD (rCons (rVar 0) rNil)) (rFn lenD (rCons (rVar 1) rNil)))))
 (rRet (rC (.bl false)))
 rNext)
 (rSeq (rFor (iZp (rCons (rVar 0) (rCons (rVar 1) rNil))) (gTp 2 (gConss (gNm 3) (gConss (gNm 4) gNils)))
 (rIfS (rNot (rTst (rCall self (rCons (rVar 3) (rCons (rVar 4) rNil)))))
 (rRet (rC (.bl false)))
 rNext))
 (rRet (rC (.bl true))))))
 rNext)
 (rSeq (rIfS (rTst (rBin isD (rVar 1) (rC .non)))
 (rRet (rBin isD (rVar 0) (rC .non)))
 rNext)
 (rSeq (rIfS (rOr (rTst (rBin isD (rVar 1) (rC (.bl true)))) (rTst (rBin isD (rVar 1) (rC (.bl false)))))
 (rRet (rAndV (rFn isi2D (rCons (rVar 0) (rCons (rC (.ty "bool")) rNil))) (rBin (eqD id) (rVar 0) (rVar 1))))
 rNext)
 (rSeq (rIfS (rTst (rFn isi2D (rCons (rVar 1) (rCons (rC (.ty "int")) rNil))))
 (rRet (rAndV (rFn isi2D (rCons (rVar 0) (rCons (rC (.ty "int")) rNil))) (rAndV (rNotV (rFn isi2D (rCons (rVar 0) (rCons (rC (.ty "bool")) rNil)))) (rBin (eqD id) (rVar 0) (rVar 1)))))
 rNext)
 (rRet (rAndV (rFn isi2D (rCons (rVar 0) (rCons (rC (.ty "str")) rNil))) (rAndV (rFn isi2D (rCons (rVar 1) (rCons (rC (.ty "str")) rNil))) (rBin (eqD id) (rVar 0) (rVar 1)))))))))

theorem pu_law_same : ∀ n ds S Q, sp_law_same (n + 1) ds S Q NoX → rd_law_same (sp_law_same n) { nx := fun _ S => Q .non S, rt := Q } (start' 5 ds) S := by

  rintro n _ S Q ⟨d, rfl, hp, k⟩
  unfold rd_law_same
  cases d with
  | tup xs =>
    simp only [rVar, rC, rBin, rUn, rTst, rChn, rTru, rAnd, rOr, rNot, rAndV, rOrV, rNotV, rIf, rNil, rCons, rTup, rLst, rFn, rCall, rCallK, rSl, rPrt, rNoP, rMt, gNm, q_gN, q_gC, q_gTp, gSb, rNext, rSeq, rDrop, rRet, rRetN, rBrk, rCnt, rIfS, rSet, rPar, rFor, iSeq, iLst, iRg1, iRg2, iZp, iEn, iStrD, rLc, rYes, q_isi2, q_i2N, q_i2B, q_i2I, q_i2S, q_i2T, q_i2L, q_j2N, q_j2B, q_j2I, q_j2S, q_j2T, q_j2L, q_gt2, q_gtT, q_en, q_int2, q_strD, q_rev, q_ixo, q_ext2, q_extT, En.x, wipeD, start', List.getElem?_cons_zero, List.getElem?_cons_succ, List.set_cons_zero, List.set_cons_succ, List.map_cons, List.map_nil, List.length_cons, List.length_nil, List.cons_append, List.nil_append, List.replicate_succ, List.replicate_zero, id, q_asB, q_asI, q_add, q_addS, q_addT, q_addL, q_int, q_sub, q_mul, q_fdiv, q_mod, q_pow, q_neg, q_le, q_ge, q_gt, q_lt, q_ltT, q_isN, q_isB, q_isBi, q_isBs, q_isBn, q_isBt, q_isnt, n_non, n_bl, n_int, n_str, n_tup, n_ref, q_eq, q_eqS, q_eqB, q_ixT, q_ixK, q_ixL, q_ixS, q_slT, q_slL, q_slS, q_set, q_lenT, q_lenK, q_lenS, q_lenL, q_abs, q_intF, q_max, q_min, q_tupT, q_tupL, q_lstT, q_lstL, q_app, q_ext, q_joinL, q_stw, q_seq, q_lst, q_rng, q_rng2, q_zpT, q_zpL, q_truN, q_truB, q_truI, q_truT, q_truL, t_non, t_bl, t_int, t_str, t_tup, q_isiN, q_isiB, q_isiI, q_isiS, q_isiT, i_NoneType_int, i_NoneType_bool, i_NoneType_tuple, i_NoneType_list, i_NoneType_str, i_bool_int, i_bool_bool, i_bool_tuple, i_bool_list, i_bool_str, i_int_int, i_int_bool, i_int_tuple, i_int_list, i_int_str, i_str_int, i_str_bool, i_str_tuple, i_str_list, i_str_str, i_tuple_int, i_tuple_bool, i_tuple_tuple, i_tuple_list, i_tuple_str, i_list_int, i_list_bool, i_list_tuple, i_list_list, i_list_str, i_dict_int, i_dict_bool, i_dict_tuple, i_dict_list, i_dict_str, up_same, g_02, g_02', g_01, g_11, at_0, at_1, ix_0, ix_1, Option.some.injEq, HQ.lst.injEq, exists_eq_left', exists_eq_left, exists_and_left, exists_eq', exists_eq, decide_eq_true_eq, if_true, if_false, ite_true, ite_false, Bool.false_eq_true, reduceIte, reduceCtorEq, Bool.not_true, Bool.not_false, Nat.zero_add, Nat.reduceAdd, Nat.reduceSub, Nat.reduceLeDiff, Nat.reduceLT, Int.reduceLT, Int.reduceLE, Int.reduceEq, Int.reduceNe, Nat.reduceEqDiff, Int.reduceToNat, Int.reducePow, Int.reduceMul, Int.reduceAdd, Int.reduceSub, Int.reduceNeg, and_true, true_and, decide_true, decide_false, bne_self_eq_false, ne_eq, not_true_eq_false, Bool.not_eq_true]
    refine loop_idx (fun i σ S' => S' = S ∧ ∃ y z w, σ = [some (.tup xs), some (.tup xs), y, z, w]) (fun _ _ _ _ _ => trivial) (fun i x σ S' hx hi N hN => ?_) (fun σ S' hi => ?_) ⟨rfl, _, _, _, rfl⟩
    · obtain ⟨rfl, y, z, w, rfl⟩ := hi
      obtain ⟨a, a', h1, h2, rfl⟩ := zipD_get hx
      rw [h1] at h2; cases h2
      simp only [rVar, rC, rBin, rUn, rTst, rChn, rTru, rAnd, rOr, rNot, rAndV, rOrV, rNotV, rIf, rNil, rCons, rTup, rLst, rFn, rCall, rCallK, rSl, rPrt, rNoP, rMt, gNm, q_gN, q_gC, q_gTp, gSb, rNext, rSeq, rDrop, rRet, rRetN, rBrk, rCnt, rIfS, rSet, rPar, rFor, iSeq, iLst, iRg1, iRg2, iZp, iEn, iStrD, rLc, rYes, q_isi2, q_i2N, q_i2B, q_i2I, q_i2S, q_i2T, q_i2L, q_j2N, q_j2B, q_j2I, q_j2S, q_j2T, q_j2L, q_gt2, q_gtT, q_en, q_int2, q_strD, q_rev, q_ixo, q_ext2, q_extT, En.x, wipeD, start', List.getElem?_cons_zero, List.getElem?_cons_succ, List.set_cons_zero, List.set_cons_succ, List.map_cons, List.map_nil, List.length_cons, List.length_nil, List.cons_append, List.nil_append, List.replicate_succ, List.replicate_zero, id, q_asB, q_asI, q_add, q_addS, q_addT, q_addL, q_int, q_sub, q_mul, q_fdiv, q_mod, q_pow, q_neg, q_le, q_ge, q_gt, q_lt, q_ltT, q_isN, q_isB, q_isBi, q_isBs, q_isBn, q_isBt, q_isnt, n_non, n_bl, n_int, n_str, n_tup, n_ref, q_eq, q_eqS, q_eqB, q_ixT, q_ixK, q_ixL, q_ixS, q_slT, q_slL, q_slS, q_set, q_lenT, q_lenK, q_lenS, q_lenL, q_abs, q_intF, q_max, q_min, q_tupT, q_tupL, q_lstT, q_lstL, q_app, q_ext, q_joinL, q_stw, q_seq, q_lst, q_rng, q_rng2, q_zpT, q_zpL, q_truN, q_truB, q_truI, q_truT, q_truL, t_non, t_bl, t_int, t_str, t_tup, q_isiN, q_isiB, q_isiI, q_isiS, q_isiT, i_NoneType_int, i_NoneType_bool, i_NoneType_tuple, i_NoneType_list, i_NoneType_str, i_bool_int, i_bool_bool, i_bool_tuple, i_bool_list, i_bool_str, i_int_int, i_int_bool, i_int_tuple, i_int_list, i_int_str, i_str_int, i_str_bool, i_str_tuple, i_str_list, i_str_str, i_tuple_int, i_tuple_bool, i_tuple_tuple, i_tuple_list, i_tuple_str, i_list_int, i_list_bool, i_list_tuple, i_list_list, i_list_str, i_dict_int, i_dict_bool, i_dict_tuple, i_dict_list, i_dict_str, up_same, g_02, g_02', g_01, g_11, at_0, at_1, ix_0, ix_1, Option.some.injEq, HQ.lst.injEq, exists_eq_left', exists_eq_left, exists_and_left, exists_eq', exists_eq, decide_eq_true_eq, if_true, if_false, ite_true, ite_false, Bool.false_eq_true, reduceIte, reduceCtorEq, Bool.not_true, Bool.not_false, Nat.zero_add, Nat.reduceAdd, Nat.reduceSub, Nat.reduceLeDiff, Nat.reduceLT, Int.reduceLT, Int.reduceLE, Int.reduceEq, Int.reduceNe, Nat.reduceEqDiff, Int.reduceToNat, Int.reducePow, Int.reduceMul, Int.reduceAdd, Int.reduceSub, Int.reduceNeg, and_true, true_and, decide_true, decide_false]
      refine ⟨a, rfl, hp.2 a (List.mem_of_getElem? h1), ?_⟩
      simp only [rVar, rC, rBin, rUn, rTst, rChn, rTru, rAnd, rOr, rNot, rAndV, rOrV, rNotV, rIf, rNil, rCons, rTup, rLst, rFn, rCall, rCallK, rSl, rPrt, rNoP, rMt, gNm, q_gN, q_gC, q_gTp, gSb, rNext, rSeq, rDrop, rRet, rRetN, rBrk, rCnt, rIfS, rSet, rPar, rFor, iSeq, iLst, iRg1, iRg2, iZp, iEn, iStrD, rLc, rYes, q_isi2, q_i2N, q_i2B, q_i2I, q_i2S, q_i2T, q_i2L, q_j2N, q_j2B, q_j2I, q_j2S, q_j2T, q_j2L, q_gt2, q_gtT, q_en, q_int2, q_strD, q_rev, q_ixo, q_ext2, q_extT, En.x, wipeD, start', List.getElem?_cons_zero, List.getElem?_cons_succ, List.set_cons_zero, List.set_cons_succ, List.map_cons, List.map_nil, List.length_cons, List.length_nil, List.cons_append, List.nil_append, List.replicate_succ, List.replicate_zero, id, q_asB, q_asI, q_add, q_addS, q_addT, q_addL, q_int, q_sub, q_mul, q_fdiv, q_mod, q_pow, q_neg, q_le, q_ge, q_gt, q_lt, q_ltT, q_isN, q_isB, q_isBi, q_isBs, q_isBn, q_isBt, q_isnt, n_non, n_bl, n_int, n_str, n_tup, n_ref, q_eq, q_eqS, q_eqB, q_ixT, q_ixK, q_ixL, q_ixS, q_slT, q_slL, q_slS, q_set, q_lenT, q_lenK, q_lenS, q_lenL, q_abs, q_intF, q_max, q_min, q_tupT, q_tupL, q_lstT, q_lstL, q_app, q_ext, q_joinL, q_stw, q_seq, q_lst, q_rng, q_rng2, q_zpT, q_zpL, q_truN, q_truB, q_truI, q_truT, q_truL, t_non, t_bl, t_int, t_str, t_tup, q_isiN, q_isiB, q_isiI, q_isiS, q_isiT, i_NoneType_int, i_NoneType_bool, i_NoneType_tuple, i_NoneType_list, i_NoneType_str, i_bool_int, i_bool_bool, i_bool_tuple, i_bool_list, i_bool_str, i_int_int, i_int_bool, i_int_tuple, i_int_list, i_int_str, i_str_int, i_str_bool, i_str_tuple, i_str_list, i_str_str, i_tuple_int, i_tuple_bool, i_tuple_tuple, i_tuple_list, i_tuple_str, i_list_int, i_list_bool, i_list_tuple, i_list_list, i_list_str, i_dict_int, i_dict_bool, i_dict_tuple, i_dict_list, i_dict_str, up_same, g_02, g_02', g_01, g_11, at_0, at_1, ix_0, ix_1, Option.some.injEq, HQ.lst.injEq, exists_eq_left', exists_eq_left, exists_and_left, exists_eq', exists_eq, decide_eq_true_eq, if_true, if_false, ite_true, ite_false, Bool.false_eq_true, reduceIte, reduceCtorEq, Bool.not_true, Bool.not_false, Nat.zero_add, Nat.reduceAdd, Nat.reduceSub, Nat.reduceLeDiff, Nat.reduceLT, Int.reduceLT, Int.reduceLE, Int.reduceEq, Int.reduceNe, Nat.reduceEqDiff, Int.reduceToNat, Int.reducePow, Int.reduceMul, Int.reduceAdd, Int.reduceSub, Int.reduceNeg, and_true, true_and, decide_true, decide_false]
      exact hN _ _ ⟨rfl, _, _, _, rfl⟩
    · obtain ⟨rfl, y, z, w, rfl⟩ := hi
      simp only [rVar, rC, rBin, rUn, rTst, rChn, rTru, rAnd, rOr, rNot, rAndV, rOrV, rNotV, rIf, rNil, rCons, rTup, rLst, rFn, rCall, rCallK, rSl, rPrt, rNoP, rMt, gNm, q_gN, q_gC, q_gTp, gSb, rNext, rSeq, rDrop, rRet, rRetN, rBrk, rCnt, rIfS, rSet, rPar, rFor, iSeq, iLst, iRg1, iRg2, iZp, iEn, iStrD, rLc, rYes, q_isi2, q_i2N, q_i2B, q_i2I, q_i2S, q_i2T, q_i2L, q_j2N, q_j2B, q_j2I, q_j2S, q_j2T, q_j2L, q_gt2, q_gtT, q_en, q_int2, q_strD, q_rev, q_ixo, q_ext2, q_extT, En.x, wipeD, start', List.getElem?_cons_zero, List.getElem?_cons_succ, List.set_cons_zero, List.set_cons_succ, List.map_cons, List.map_nil, List.length_cons, List.length_nil, List.cons_append, List.nil_append, List.replicate_succ, List.replicate_zero, id, q_asB, q_asI, q_add, q_addS, q_addT, q_addL, q_int, q_sub, q_mul, q_fdiv, q_mod, q_pow, q_neg, q_le, q_ge, q_gt, q_lt, q_ltT, q_isN, q_isB, q_isBi, q_isBs, q_isBn, q_isBt, q_isnt, n_non, n_bl, n_int, n_str, n_tup, n_ref, q_eq, q_eqS, q_eqB, q_ixT, q_ixK, q_ixL, q_ixS, q_slT, q_slL, q_slS, q_set, q_lenT, q_lenK, q_lenS, q_lenL, q_abs, q_intF, q_max, q_min, q_tupT, q_tupL, q_lstT, q_lstL, q_app, q_ext, q_joinL, q_stw, q_seq, q_lst, q_rng, q_rng2, q_zpT, q_zpL, q_truN, q_truB, q_truI, q_truT, q_truL, t_non, t_bl, t_int, t_str, t_tup, q_isiN, q_isiB, q_isiI, q_isiS, q_isiT, i_NoneType_int, i_NoneType_bool, i_NoneType_tuple, i_NoneType_list, i_NoneType_str, i_bool_int, i_bool_bool, i_bool_tuple, i_bool_list, i_bool_str, i_int_int, i_int_bool, i_int_tuple, i_int_list, i_int_str, i_str_int, i_str_bool, i_str_tuple, i_str_list, i_str_str, i_tuple_int, i_tuple_bool, i_tuple_tuple, i_tuple_list, i_tuple_str, i_list_int, i_list_bool, i_list_tuple, i_list_list, i_list_str, i_dict_int, i_dict_bool, i_dict_tuple, i_dict_list, i_dict_str, up_same, g_02, g_02', g_01, g_11, at_0, at_1, ix_0, ix_1, Option.some.injEq, HQ.lst.injEq, exists_eq_left', exists_eq_left, exists_and_left, exists_eq', exists_eq, decide_eq_true_eq, if_true, if_false, ite_true, ite_false, Bool.false_eq_true, reduceIte, reduceCtorEq, Bool.not_true, Bool.not_false, Nat.zero_add, Nat.reduceAdd, Nat.reduceSub, Nat.reduceLeDiff, Nat.reduceLT, Int.reduceLT, Int.reduceLE, Int.reduceEq, Int.reduceNe, Nat.reduceEqDiff, Int.reduceToNat, Int.reducePow, Int.reduceMul, Int.reduceAdd, Int.reduceSub, Int.reduceNeg, and_true, true_and, decide_true, decide_false]
      exact k
  | non => simp only [rVar, rC, rBin, rUn, rTst, rChn, rTru, rAnd, rOr, rNot, rAndV, rOrV, rNotV, rIf, rNil, rCons, rTup, rLst, rFn, rCall, rCallK, rSl, rPrt, rNoP, rMt, gNm, q_gN, q_gC, q_gTp, gSb, rNext, rSeq, rDrop, rRet, rRetN, rBrk, rCnt, rIfS, rSet, rPar, rFor, iSeq, iLst, iRg1, iRg2, iZp, iEn, iStrD, rLc, rYes, q_isi2, q_i2N, q_i2B, q_i2I, q_i2S, q_i2T, q_i2L, q_j2N, q_j2B, q_j2I, q_j2S, q_j2T, q_j2L, q_gt2, q_gtT, q_en, q_int2, q_strD, q_rev, q_ixo, q_ext2, q_extT, En.x, wipeD, start', List.getElem?_cons_zero, List.getElem?_cons_succ, List.set_cons_zero, List.set_cons_succ, List.map_cons, List.map_nil, List.length_cons, List.length_nil, List.cons_append, List.nil_append, List.replicate_succ, List.replicate_zero, id, q_asB, q_asI, q_add, q_addS, q_addT, q_addL, q_int, q_sub, q_mul, q_fdiv, q_mod, q_pow, q_neg, q_le, q_ge, q_gt, q_lt, q_ltT, q_isN, q_isB, q_isBi, q_isBs, q_isBn, q_isBt, q_isnt, n_non, n_bl, n_int, n_str, n_tup, n_ref, q_eq, q_eqS, q_eqB, q_ixT, q_ixK, q_ixL, q_ixS, q_slT, q_slL, q_slS, q_set, q_lenT, q_lenK, q_lenS, q_lenL, q_abs, q_intF, q_max, q_min, q_tupT, q_tupL, q_lstT, q_lstL, q_app, q_ext, q_joinL, q_stw, q_seq, q_lst, q_rng, q_rng2, q_zpT, q_zpL, q_truN, q_truB, q_truI, q_truT, q_truL, t_non, t_bl, t_int, t_str, t_tup, q_isiN, q_isiB, q_isiI, q_isiS, q_isiT, i_NoneType_int, i_NoneType_bool, i_NoneType_tuple, i_NoneType_list, i_NoneType_str, i_bool_int, i_bool_bool, i_bool_tuple, i_bool_list, i_bool_str, i_int_int, i_int_bool, i_int_tuple, i_int_list, i_int_str, i_str_int, i_str_bool, i_str_tuple, i_str_list, i_str_str, i_tuple_int, i_tuple_bool, i_tuple_tuple, i_tuple_list, i_tuple_str, i_list_int, i_list_bool, i_list_tuple, i_list_list, i_list_str, i_dict_int, i_dict_bool, i_dict_tuple, i_dict_list, i_dict_str, up_same, g_02, g_02', g_01, g_11, at_0, at_1, ix_0, ix_1, Option.some.injEq, HQ.lst.injEq, exists_eq_left', exists_eq_left, exists_and_left, exists_eq', exists_eq, decide_eq_true_eq, if_true, if_false, ite_true, ite_false, Bool.false_eq_true, reduceIte, reduceCtorEq, Bool.not_true, Bool.not_false, Nat.zero_add, Nat.reduceAdd, Nat.reduceSub, Nat.reduceLeDiff, Nat.reduceLT, Int.reduceLT, Int.reduceLE, Int.reduceEq, Int.reduceNe, Nat.reduceEqDiff, Int.reduceToNat, Int.reducePow, Int.reduceMul, Int.reduceAdd, Int.reduceSub, Int.reduceNeg, and_true, true_and, decide_true, decide_false]; exact k
  | bl v => cases v <;> (simp only [rVar, rC, rBin, rUn, rTst, rChn, rTru, rAnd, rOr, rNot, rAndV, rOrV, rNotV, rIf, rNil, rCons, rTup, rLst, rFn, rCall, rCallK, rSl, rPrt, rNoP, rMt, gNm, q_gN, q_gC, q_gTp, gSb, rNext, rSeq, rDrop, rRet, rRetN, rBrk, rCnt, rIfS, rSet, rPar, rFor, iSeq, iLst, iRg1, iRg2, iZp, iEn, iStrD, rLc, rYes, q_isi2, q_i2N, q_i2B, q_i2I, q_i2S, q_i2T, q_i2L, q_j2N, q_j2B, q_j2I, q_j2S, q_j2T, q_j2L, q_gt2, q_gtT, q_en, q_int2, q_strD, q_rev, q_ixo, q_ext2, q_extT, En.x, wipeD, start', List.getElem?_cons_zero, List.getElem?_cons_succ, List.set_cons_zero, List.set_cons_succ, List.map_cons, List.map_nil, List.length_cons, List.length_nil, List.cons_append, List.nil_append, List.replicate_succ, List.replicate_zero, id, q_asB, q_asI, q_add, q_addS, q_addT, q_addL, q_int, q_sub, q_mul, q_fdiv, q_mod, q_pow, q_neg, q_le, q_ge, q_gt, q_lt, q_ltT, q_isN, q_isB, q_isBi, q_isBs, q_isBn, q_isBt, q_isnt, n_non, n_bl, n_int, n_str, n_tup, n_ref, q_eq, q_eqS, q_eqB, q_ixT, q_ixK, q_ixL, q_ixS, q_slT, q_slL, q_slS, q_set, q_lenT, q_lenK, q_lenS, q_lenL, q_abs, q_intF, q_max, q_min, q_tupT, q_tupL, q_lstT, q_lstL, q_app, q_ext, q_joinL, q_stw, q_seq, q_lst, q_rng, q_rng2, q_zpT, q_zpL, q_truN, q_truB, q_truI, q_truT, q_truL, t_non, t_bl, t_int, t_str, t_tup, q_isiN, q_isiB, q_isiI, q_isiS, q_isiT, i_NoneType_int, i_NoneType_bool, i_NoneType_tuple, i_NoneType_list, i_NoneType_str, i_bool_int, i_bool_bool, i_bool_tuple, i_bool_list, i_bool_str, i_int_int, i_int_bool, i_int_tuple, i_int_list, i_int_str, i_str_int, i_str_bool, i_str_tuple, i_str_list, i_str_str, i_tuple_int, i_tuple_bool, i_tuple_tuple, i_tuple_list, i_tuple_str, i_list_int, i_list_bool, i_list_tuple, i_list_list, i_list_str, i_dict_int, i_dict_bool, i_dict_tuple, i_dict_list, i_dict_str, up_same, g_02, g_02', g_01, g_11, at_0, at_1, ix_0, ix_1, Option.some.injEq, HQ.lst.injEq, exists_eq_left', exists_eq_left, exists_and_left, exists_eq', exists_eq, decide_eq_true_eq, if_true, if_false, ite_true, ite_false, Bool.false_eq_true, reduceIte, reduceCtorEq, Bool.not_true, Bool.not_false, Nat.zero_add, Nat.reduceAdd, Nat.reduceSub, Nat.reduceLeDiff, Nat.reduceLT, Int.reduceLT, Int.reduceLE, Int.reduceEq, Int.reduceNe, Nat.reduceEqDiff, Int.reduceToNat, Int.reducePow, Int.reduceMul, Int.reduceAdd, Int.reduceSub, Int.reduceNeg, and_true, true_and, decide_true, decide_false]; exact k)
  | int i => simp only [rVar, rC, rBin, rUn, rTst, rChn, rTru, rAnd, rOr, rNot, rAndV, rOrV, rNotV, rIf, rNil, rCons, rTup, rLst, rFn, rCall, rCallK, rSl, rPrt, rNoP, rMt, gNm, q_gN, q_gC, q_gTp, gSb, rNext, rSeq, rDrop, rRet, rRetN, rBrk, rCnt, rIfS, rSet, rPar, rFor, iSeq, iLst, iRg1, iRg2, iZp, iEn, iStrD, rLc, rYes, q_isi2, q_i2N, q_i2B, q_i2I, q_i2S, q_i2T, q_i2L, q_j2N, q_j2B, q_j2I, q_j2S, q_j2T, q_j2L, q_gt2, q_gtT, q_en, q_int2, q_strD, q_rev, q_ixo, q_ext2, q_extT, En.x, wipeD, start', List.getElem?_cons_zero, List.getElem?_cons_succ, List.set_cons_zero, List.set_cons_succ, List.map_cons, List.map_nil, List.length_cons, List.length_nil, List.cons_append, List.nil_append, List.replicate_succ, List.replicate_zero, id, q_asB, q_asI, q_add, q_addS, q_addT, q_addL, q_int, q_sub, q_mul, q_fdiv, q_mod, q_pow, q_neg, q_le, q_ge, q_gt, q_lt, q_ltT, q_isN, q_isB, q_isBi, q_isBs, q_isBn, q_isBt, q_isnt, n_non, n_bl, n_int, n_str, n_tup, n_ref, q_eq, q_eqS, q_eqB, q_ixT, q_ixK, q_ixL, q_ixS, q_slT, q_slL, q_slS, q_set, q_lenT, q_lenK, q_lenS, q_lenL, q_abs, q_intF, q_max, q_min, q_tupT, q_tupL, q_lstT, q_lstL, q_app, q_ext, q_joinL, q_stw, q_seq, q_lst, q_rng, q_rng2, q_zpT, q_zpL, q_truN, q_truB, q_truI, q_truT, q_truL, t_non, t_bl, t_int, t_str, t_tup, q_isiN, q_isiB, q_isiI, q_isiS, q_isiT, i_NoneType_int, i_NoneType_bool, i_NoneType_tuple, i_NoneType_list, i_NoneType_str, i_bool_int, i_bool_bool, i_bool_tuple, i_bool_list, i_bool_str, i_int_int, i_int_bool, i_int_tuple, i_int_list, i_int_str, i_str_int, i_str_bool, i_str_tuple, i_str_list, i_str_str, i_tuple_int, i_tuple_bool, i_tuple_tuple, i_tuple_list, i_tuple_str, i_list_int, i_list_bool, i_list_tuple, i_list_list, i_list_str, i_dict_int, i_dict_bool, i_dict_tuple, i_dict_list, i_dict_str, up_same, g_02, g_02', g_01, g_11, at_0, at_1, ix_0, ix_1, Option.some.injEq, HQ.lst.injEq, exists_eq_left', exists_eq_left, exists_and_left, exists_eq', exists_eq, decide_eq_true_eq, if_true, if_false, ite_true, ite_false, Bool.false_eq_true, reduceIte, reduceCtorEq, Bool.not_true, Bool.not_false, Nat.zero_add, Nat.reduceAdd, Nat.reduceSub, Nat.reduceLeDiff, Nat.reduceLT, Int.reduceLT, Int.reduceLE, Int.reduceEq, Int.reduceNe, Nat.reduceEqDiff, Int.reduceToNat, Int.reducePow, Int.reduceMul, Int.reduceAdd, Int.reduceSub, Int.reduceNeg, and_true, true_and, decide_true, decide_false]; exact k
  | str z => simp only [rVar, rC, rBin, rUn, rTst, rChn, rTru, rAnd, rOr, rNot, rAndV, rOrV, rNotV, rIf, rNil, rCons, rTup, rLst, rFn, rCall, rCallK, rSl, rPrt, rNoP, rMt, gNm, q_gN, q_gC, q_gTp, gSb, rNext, rSeq, rDrop, rRet, rRetN, rBrk, rCnt, rIfS, rSet, rPar, rFor, iSeq, iLst, iRg1, iRg2, iZp, iEn, iStrD, rLc, rYes, q_isi2, q_i2N, q_i2B, q_i2I, q_i2S, q_i2T, q_i2L, q_j2N, q_j2B, q_j2I, q_j2S, q_j2T, q_j2L, q_gt2, q_gtT, q_en, q_int2, q_strD, q_rev, q_ixo, q_ext2, q_extT, En.x, wipeD, start', List.getElem?_cons_zero, List.getElem?_cons_succ, List.set_cons_zero, List.set_cons_succ, List.map_cons, List.map_nil, List.length_cons, List.length_nil, List.cons_append, List.nil_append, List.replicate_succ, List.replicate_zero, id, q_asB, q_asI, q_add, q_addS, q_addT, q_addL, q_int, q_sub, q_mul, q_fdiv, q_mod, q_pow, q_neg, q_le, q_ge, q_gt, q_lt, q_ltT, q_isN, q_isB, q_isBi, q_isBs, q_isBn, q_isBt, q_isnt, n_non, n_bl, n_int, n_str, n_tup, n_ref, q_eq, q_eqS, q_eqB, q_ixT, q_ixK, q_ixL, q_ixS, q_slT, q_slL, q_slS, q_set, q_lenT, q_lenK, q_lenS, q_lenL, q_abs, q_intF, q_max, q_min, q_tupT, q_tupL, q_lstT, q_lstL, q_app, q_ext, q_joinL, q_stw, q_seq, q_lst, q_rng, q_rng2, q_zpT, q_zpL, q_truN, q_truB, q_truI, q_truT, q_truL, t_non, t_bl, t_int, t_str, t_tup, q_isiN, q_isiB, q_isiI, q_isiS, q_isiT, i_NoneType_int, i_NoneType_bool, i_NoneType_tuple, i_NoneType_list, i_NoneType_str, i_bool_int, i_bool_bool, i_bool_tuple, i_bool_list, i_bool_str, i_int_int, i_int_bool, i_int_tuple, i_int_list, i_int_str, i_str_int, i_str_bool, i_str_tuple, i_str_list, i_str_str, i_tuple_int, i_tuple_bool, i_tuple_tuple, i_tuple_list, i_tuple_str, i_list_int, i_list_bool, i_list_tuple, i_list_list, i_list_str, i_dict_int, i_dict_bool, i_dict_tuple, i_dict_list, i_dict_str, up_same, g_02, g_02', g_01, g_11, at_0, at_1, ix_0, ix_1, Option.some.injEq, HQ.lst.injEq, exists_eq_left', exists_eq_left, exists_and_left, exists_eq', exists_eq, decide_eq_true_eq, if_true, if_false, ite_true, ite_false, Bool.false_eq_true, reduceIte, reduceCtorEq, Bool.not_true, Bool.not_false, Nat.zero_add, Nat.reduceAdd, Nat.reduceSub, Nat.reduceLeDiff, Nat.reduceLT, Int.reduceLT, Int.reduceLE, Int.reduceEq, Int.reduceNe, Nat.reduceEqDiff, Int.reduceToNat, Int.reducePow, Int.reduceMul, Int.reduceAdd, Int.reduceSub, Int.reduceNeg, and_true, true_and, decide_true, decide_false]; exact k
  | _ => exact hp.elim

def sp_law_take : Sq := fun ds S Q _ => ∃ b n, ds = [.ref b, .int n] ∧ Bx S b ∧ 0 < n ∧ n < 2 ^ 63 ∧ ∀ r S', 0 ≤ r → r < n → Nx b S S' → Q (.int r) S'
theorem ln_law_take : ∀ ds S Q E, sp_law_take ds S Q E → ds.length = 2 := by rintro _ _ _ _ ⟨b, n, rfl, _⟩; rfl
theorem nx_law_take : ∀ ds S Q E, sp_law_take ds S Q E → sp_law_take ds S Q NoX := fun _ _ _ _ h => h
theorem take_of {b : Addr} {n : Int} {S : Hq} {Q : Qv} (hb : Bx S b) (h0 : 0 < n) (h1 : n < 2 ^ 63) (q : ∀ r S', 0 ≤ r → r < n → Nx b S S' → Q (.int r) S') : sp_law_take [.ref b, .int n] S Q NoX := ⟨b, n, rfl, hb, h0, h1, q⟩

def rd_law_take : RSt :=
 (rSeq (rIfS (rTst (rBin gtD2 (rBin ixD (rVar 0) (rC (.int 0))) (rC (.int 0))))
 (rSeq (rSet (rBin modD (rFn intF (rCons (rBin ixD (rVar 0) (rC (.int 0))) rNil)) (rVar 1)) (gNm 3))
 (rSeq (rSet (rBin fdivD (rBin ixD (rVar 0) (rC (.int 0))) (rVar 1)) (gSb (rVar 0) (rC (.int 0))))
 (rRet (rVar 3))))
 rNext)
 (rSeq (rSet (rBin modD (rFn intF (rCons (rBin addD (rBin mulD (rBin ixD (rVar 0) (rC (.int 1))) (rC (.int 39373))) (rC (.int 101))) rNil)) (rC (.int 2147483647))) (gNm 2))
 (rSeq (rSet (rBin addD (rBin modD (rFn intF (rCons (rBin addD (rBin mulD (rVar 2) (rC (.int 40692))) (rC (.int 17))) rNil)) (rC (.int 2147483563))) (rC (.int 1))) (gSb (rVar 0) (rC (.int 1))))
 (rRet (rBin modD (rFn intF (rCons (rBin fdivD (rBin addD (rBin mulD (rVar 2) (rC (.int 2147483629))) (rBin ixD (rVar 0) (rC (.int 1)))) (rC (.int 8233))) rNil)) (rVar 1))))))

theorem pu_law_take : ∀ ds S Q, sp_law_take ds S Q NoX → rd_law_take { nx := fun _ S => Q .non S, rt := Q } (start' 4 ds) S := by

  rintro _ S Q ⟨b, n, rfl, ⟨g, s, hb⟩, hn, hn2, k⟩
  unfold rd_law_take
  simp only [rVar, rC, rBin, rUn, rTst, rChn, rTru, rAnd, rOr, rNot, rAndV, rOrV, rNotV, rIf, rNil, rCons, rTup, rLst, rFn, rCall, rCallK, rSl, rPrt, rNoP, rMt, gNm, q_gN, q_gC, q_gTp, gSb, rNext, rSeq, rDrop, rRet, rRetN, rBrk, rCnt, rIfS, rSet, rPar, rFor, iSeq, iLst, iRg1, iRg2, iZp, iEn, iStrD, rLc, rYes, q_isi2, q_i2N, q_i2B, q_i2I, q_i2S, q_i2T, q_i2L, q_j2N, q_j2B, q_j2I, q_j2S, q_j2T, q_j2L, q_gt2, q_gtT, q_en, q_int2, q_strD, q_rev, q_ixo, q_ext2, q_extT, En.x, wipeD, start', List.getElem?_cons_zero, List.getElem?_cons_succ, List.set_cons_zero, List.set_cons_succ, List.map_cons, List.map_nil, List.length_cons, List.length_nil, List.cons_append, List.nil_append, List.replicate_succ, List.replicate_zero, id, q_asB, q_asI, q_add, q_addS, q_addT, q_addL, q_int, q_sub, q_mul, q_fdiv, q_mod, q_pow, q_neg, q_le, q_ge, q_gt, q_lt, q_ltT, q_isN, q_isB, q_isBi, q_isBs, q_isBn, q_isBt, q_isnt, n_non, n_bl, n_int, n_str, n_tup, n_ref, q_eq, q_eqS, q_eqB, q_ixT, q_ixK, q_ixL, q_ixS, q_slT, q_slL, q_slS, q_set, q_lenT, q_lenK, q_lenS, q_lenL, q_abs, q_intF, q_max, q_min, q_tupT, q_tupL, q_lstT, q_lstL, q_app, q_ext, q_joinL, q_stw, q_seq, q_lst, q_rng, q_rng2, q_zpT, q_zpL, q_truN, q_truB, q_truI, q_truT, q_truL, t_non, t_bl, t_int, t_str, t_tup, q_isiN, q_isiB, q_isiI, q_isiS, q_isiT, i_NoneType_int, i_NoneType_bool, i_NoneType_tuple, i_NoneType_list, i_NoneType_str, i_bool_int, i_bool_bool, i_bool_tuple, i_bool_list, i_bool_str, i_int_int, i_int_bool, i_int_tuple, i_int_list, i_int_str, i_str_int, i_str_bool, i_str_tuple, i_str_list, i_str_str, i_tuple_int, i_tuple_bool, i_tuple_tuple, i_tuple_list, i_tuple_str, i_list_int, i_list_bool, i_list_tuple, i_list_list, i_list_str, i_dict_int, i_dict_bool, i_dict_tuple, i_dict_list, i_dict_str, up_same, g_02, g_02', g_01, g_11, at_0, at_1, ix_0, ix_1, Option.some.injEq, HQ.lst.injEq, exists_eq_left', exists_eq_left, exists_and_left, exists_eq', exists_eq, decide_eq_true_eq, if_true, if_false, ite_true, ite_false, Bool.false_eq_true, reduceIte, reduceCtorEq, Bool.not_true, Bool.not_false, Nat.zero_add, Nat.reduceAdd, Nat.reduceSub, Nat.reduceLeDiff, Nat.reduceLT, Int.reduceLT, Int.reduceLE, Int.reduceEq, Int.reduceNe, Nat.reduceEqDiff, Int.reduceToNat, Int.reducePow, Int.reduceMul, Int.reduceAdd, Int.reduceSub, Int.reduceNeg, and_true, true_and, decide_true, decide_false, hb, up_same, hn]
  split
  · exact ⟨⟨hn, by omega⟩, k _ _ (Int.emod_nonneg _ (by omega)) (Int.emod_lt_of_pos _ hn) .put⟩
  · exact ⟨cm_r (by decide) (by decide), cm_r (by decide) (by decide), cm_r (by decide) (by decide), ⟨by decide, by decide⟩, k _ _ (Int.emod_nonneg _ (by omega)) (Int.emod_lt_of_pos _ hn) .put⟩

def sp_law_pick : Sq := fun ds S Q _ => ∃ b a xs, ds = [.ref b, .ref a] ∧ Bx S b ∧ a ≠ b ∧ S a = some (.lst xs) ∧ 0 < xs.length ∧ xs.length < 1000000 ∧ ∀ d S', d ∈ xs → Nx b S S' → Q d S'
theorem ln_law_pick : ∀ ds S Q E, sp_law_pick ds S Q E → ds.length = 2 := by rintro _ _ _ _ ⟨b, a, xs, rfl, _⟩; rfl
theorem nx_law_pick : ∀ ds S Q E, sp_law_pick ds S Q E → sp_law_pick ds S Q NoX := fun _ _ _ _ h => h
theorem pick_of {b p : Addr} {xs : List D} {S : Hq} {Q : Qv} (hb : Bx S b) (hp : S p = none) (h0 : 0 < xs.length) (h1 : xs.length < 1000000) (q : ∀ d S', d ∈ xs → Nx b S S' → Q d S') : sp_law_pick [.ref b, .ref p] (up S p (.lst xs)) Q NoX :=
  ⟨b, p, xs, rfl, hb.up hp, hb.ne hp, up_same, h0, h1, fun d S' hd n => q d S' hd ((Nx.new hb hp).trans n)⟩

def rd_law_pick : RSt :=
 (rRet (rBin ixD (rVar 1) (rCall sp_law_take (rCons (rVar 0) (rCons (rFn lenD (rCons (rVar 1) rNil)) rNil)))))

theorem pu_law_pick : ∀ ds S Q, sp_law_pick ds S Q NoX → rd_law_pick { nx := fun _ S => Q .non S, rt := Q } (start' 2 ds) S := by

  rintro _ S Q ⟨b, a, xs, rfl, hb, ne, ha, h0, h1, k⟩
  unfold rd_law_pick
  simp only [rVar, rC, rBin, rUn, rTst, rChn, rTru, rAnd, rOr, rNot, rAndV, rOrV, rNotV, rIf, rNil, rCons, rTup, rLst, rFn, rCall, rCallK, rSl, rPrt, rNoP, rMt, gNm, q_gN, q_gC, q_gTp, gSb, rNext, rSeq, rDrop, rRet, rRetN, rBrk, rCnt, rIfS, rSet, rPar, rFor, iSeq, iLst, iRg1, iRg2, iZp, iEn, iStrD, rLc, rYes, q_isi2, q_i2N, q_i2B, q_i2I, q_i2S, q_i2T, q_i2L, q_j2N, q_j2B, q_j2I, q_j2S, q_j2T, q_j2L, q_gt2, q_gtT, q_en, q_int2, q_strD, q_rev, q_ixo, q_ext2, q_extT, En.x, wipeD, start', List.getElem?_cons_zero, List.getElem?_cons_succ, List.set_cons_zero, List.set_cons_succ, List.map_cons, List.map_nil, List.length_cons, List.length_nil, List.cons_append, List.nil_append, List.replicate_succ, List.replicate_zero, id, q_asB, q_asI, q_add, q_addS, q_addT, q_addL, q_int, q_sub, q_mul, q_fdiv, q_mod, q_pow, q_neg, q_le, q_ge, q_gt, q_lt, q_ltT, q_isN, q_isB, q_isBi, q_isBs, q_isBn, q_isBt, q_isnt, n_non, n_bl, n_int, n_str, n_tup, n_ref, q_eq, q_eqS, q_eqB, q_ixT, q_ixK, q_ixL, q_ixS, q_slT, q_slL, q_slS, q_set, q_lenT, q_lenK, q_lenS, q_lenL, q_abs, q_intF, q_max, q_min, q_tupT, q_tupL, q_lstT, q_lstL, q_app, q_ext, q_joinL, q_stw, q_seq, q_lst, q_rng, q_rng2, q_zpT, q_zpL, q_truN, q_truB, q_truI, q_truT, q_truL, t_non, t_bl, t_int, t_str, t_tup, q_isiN, q_isiB, q_isiI, q_isiS, q_isiT, i_NoneType_int, i_NoneType_bool, i_NoneType_tuple, i_NoneType_list, i_NoneType_str, i_bool_int, i_bool_bool, i_bool_tuple, i_bool_list, i_bool_str, i_int_int, i_int_bool, i_int_tuple, i_int_list, i_int_str, i_str_int, i_str_bool, i_str_tuple, i_str_list, i_str_str, i_tuple_int, i_tuple_bool, i_tuple_tuple, i_tuple_list, i_tuple_str, i_list_int, i_list_bool, i_list_tuple, i_list_list, i_list_str, i_dict_int, i_dict_bool, i_dict_tuple, i_dict_list, i_dict_str, up_same, g_02, g_02', g_01, g_11, at_0, at_1, ix_0, ix_1, Option.some.injEq, HQ.lst.injEq, exists_eq_left', exists_eq_left, exists_and_left, exists_eq', exists_eq, decide_eq_true_eq, if_true, if_false, ite_true, ite_false, Bool.false_eq_true, reduceIte, reduceCtorEq, Bool.not_true, Bool.not_false, Nat.zero_add, Nat.reduceAdd, Nat.reduceSub, Nat.reduceLeDiff, Nat.reduceLT, Int.reduceLT, Int.reduceLE, Int.reduceEq, Int.reduceNe, Nat.reduceEqDiff, Int.reduceToNat, Int.reducePow, Int.reduceMul, Int.reduceAdd, Int.reduceSub, Int.reduceNeg, and_true, true_and, decide_true, decide_false, ha]
  refine take_of hb (by omega) (by omega) fun r S' hr0 hr1 n => ?_
  obtain ⟨d, hd, e, _⟩ := at_in hr0 hr1
  simp only [rVar, rC, rBin, rUn, rTst, rChn, rTru, rAnd, rOr, rNot, rAndV, rOrV, rNotV, rIf, rNil, rCons, rTup, rLst, rFn, rCall, rCallK, rSl, rPrt, rNoP, rMt, gNm, q_gN, q_gC, q_gTp, gSb, rNext, rSeq, rDrop, rRet, rRetN, rBrk, rCnt, rIfS, rSet, rPar, rFor, iSeq, iLst, iRg1, iRg2, iZp, iEn, iStrD, rLc, rYes, q_isi2, q_i2N, q_i2B, q_i2I, q_i2S, q_i2T, q_i2L, q_j2N, q_j2B, q_j2I, q_j2S, q_j2T, q_j2L, q_gt2, q_gtT, q_en, q_int2, q_strD, q_rev, q_ixo, q_ext2, q_extT, En.x, wipeD, start', List.getElem?_cons_zero, List.getElem?_cons_succ, List.set_cons_zero, List.set_cons_succ, List.map_cons, List.map_nil, List.length_cons, List.length_nil, List.cons_append, List.nil_append, List.replicate_succ, List.replicate_zero, id, q_asB, q_asI, q_add, q_addS, q_addT, q_addL, q_int, q_sub, q_mul, q_fdiv, q_mod, q_pow, q_neg, q_le, q_ge, q_gt, q_lt, q_ltT, q_isN, q_isB, q_isBi, q_isBs, q_isBn, q_isBt, q_isnt, n_non, n_bl, n_int, n_str, n_tup, n_ref, q_eq, q_eqS, q_eqB, q_ixT, q_ixK, q_ixL, q_ixS, q_slT, q_slL, q_slS, q_set, q_lenT, q_lenK, q_lenS, q_lenL, q_abs, q_intF, q_max, q_min, q_tupT, q_tupL, q_lstT, q_lstL, q_app, q_ext, q_joinL, q_stw, q_seq, q_lst, q_rng, q_rng2, q_zpT, q_zpL, q_truN, q_truB, q_truI, q_truT, q_truL, t_non, t_bl, t_int, t_str, t_tup, q_isiN, q_isiB, q_isiI, q_isiS, q_isiT, i_NoneType_int, i_NoneType_bool, i_NoneType_tuple, i_NoneType_list, i_NoneType_str, i_bool_int, i_bool_bool, i_bool_tuple, i_bool_list, i_bool_str, i_int_int, i_int_bool, i_int_tuple, i_int_list, i_int_str, i_str_int, i_str_bool, i_str_tuple, i_str_list, i_str_str, i_tuple_int, i_tuple_bool, i_tuple_tuple, i_tuple_list, i_tuple_str, i_list_int, i_list_bool, i_list_tuple, i_list_list, i_list_str, i_dict_int, i_dict_bool, i_dict_tuple, i_dict_list, i_dict_str, up_same, g_02, g_02', g_01, g_11, at_0, at_1, ix_0, ix_1, Option.some.injEq, HQ.lst.injEq, exists_eq_left', exists_eq_left, exists_and_left, exists_eq', exists_eq, decide_eq_true_eq, if_true, if_false, ite_true, ite_false, Bool.false_eq_true, reduceIte, reduceCtorEq, Bool.not_true, Bool.not_false, Nat.zero_add, Nat.reduceAdd, Nat.reduceSub, Nat.reduceLeDiff, Nat.reduceLT, Int.reduceLT, Int.reduceLE, Int.reduceEq, Int.reduceNe, Nat.reduceEqDiff, Int.reduceToNat, Int.reducePow, Int.reduceMul, Int.reduceAdd, Int.reduceSub, Int.reduceNeg, and_true, true_and, decide_true, decide_false, n.get ne ha, e]
  exact k d S' hd n

def sp_law_signs : Sq := fun ds S Q _ => ∃ b many, ds = [.ref b, .int many] ∧ Bx S b ∧ 0 ≤ many ∧ many ≤ 100 ∧ ∀ z S', SgOk z → Nx b S S' → Q (.str z) S'
theorem ln_law_signs : ∀ ds S Q E, sp_law_signs ds S Q E → ds.length = 2 := by rintro _ _ _ _ ⟨b, n, rfl, _⟩; rfl
theorem nx_law_signs : ∀ ds S Q E, sp_law_signs ds S Q E → sp_law_signs ds S Q NoX := fun _ _ _ _ h => h
theorem signs_of {b : Addr} {many : Int} {S : Hq} {Q : Qv} (hb : Bx S b) (h0 : 0 ≤ many) (h1 : many ≤ 100) (q : ∀ z S', SgOk z → Nx b S S' → Q (.str z) S') : sp_law_signs [.ref b, .int many] S Q NoX := ⟨b, many, rfl, hb, h0, h1, q⟩
theorem join_is : ∀ {zs : List Str}, (∀ z ∈ zs, ∀ c ∈ z.cps.toList, Bi.Is c) → ∀ c ∈ (Str.join (Str.ofString "") zs).cps.toList, Bi.Is c
  | [], _, c, m => by
    have e : (Str.join (Str.ofString "") []).cps.toList = [] := by decide +kernel
    rw [e] at m; cases m
  | [x], h, c, m => h x List.mem_cons_self c m
  | x :: y :: r, h, c, m => by
    have e : (Str.join (Str.ofString "") (x :: y :: r)).cps.toList = x.cps.toList ++ ((Str.ofString "").cps.toList ++ (Str.join (Str.ofString "") (y :: r)).cps.toList) := by
      rw [show Str.join (Str.ofString "") (x :: y :: r) = x ++ (Str.ofString "") ++ Str.join (Str.ofString "") (y :: r) from rfl]
      show ((x.cps ++ (Str.ofString "").cps) ++ (Str.join (Str.ofString "") (y :: r)).cps).toList = _
      rw [Array.toList_append, Array.toList_append, List.append_assoc]
    rw [e] at m
    rcases List.mem_append.mp m with m | m
    · exact h x List.mem_cons_self c m
    · rcases List.mem_append.mp m with m | m
      · have e2 : (Str.ofString "").cps.toList = [] := by decide +kernel
        rw [e2] at m; cases m
      · exact join_is (fun z hz => h z (List.mem_cons_of_mem _ hz)) c m
theorem strs_sg : ∀ {ds : List D}, (∀ y ∈ ds, ∃ z : Str, y = .str z ∧ z.length = 1 ∧ ∀ c ∈ z.cps.toList, Bi.Is c) → ∃ zs, strsD ds = some zs ∧ zs.length = ds.length ∧ (zs.map (·.length)).sum = ds.length ∧ ∀ z ∈ zs, ∀ c ∈ z.cps.toList, Bi.Is c
  | [], _ => ⟨[], rfl, rfl, rfl, fun _ h => by cases h⟩
  | d :: r, h => by
    obtain ⟨z, rfl, hz, hc⟩ := h d List.mem_cons_self
    obtain ⟨zs, e1, e2, e3, e4⟩ := strs_sg (ds := r) fun y hy => h y (List.mem_cons_of_mem _ hy)
    exact ⟨z :: zs, by simp [strsD, e1], by simp [e2], by simp [e3, hz]; omega, fun t ht => by rcases List.mem_cons.mp ht with rfl | ht; exact hc; exact e4 t ht⟩

def rd_law_signs : RSt :=
 (rRet (rMt "str" joinD (rC (.str (Str.ofString ""))) (rCons (rLc (iRg1 (rCons (rVar 1) rNil)) (gNm 2) rYes (rCall sp_law_pick (rCons (rVar 0) (rCons (rLst (rCons (rC (.str (Str.ofString "0"))) (rCons (rC (.str (Str.ofString "1"))) rNil))) rNil))) [2]) rNil)))

theorem pu_law_signs : ∀ ds S Q, sp_law_signs ds S Q NoX → rd_law_signs { nx := fun _ S => Q .non S, rt := Q } (start' 3 ds) S := by

  rintro _ S Q ⟨b, many, rfl, hb, h0, h1, k⟩
  unfold rd_law_signs
  simp only [rVar, rC, rBin, rUn, rTst, rChn, rTru, rAnd, rOr, rNot, rAndV, rOrV, rNotV, rIf, rNil, rCons, rTup, rLst, rFn, rCall, rCallK, rSl, rPrt, rNoP, rMt, gNm, q_gN, q_gC, q_gTp, gSb, rNext, rSeq, rDrop, rRet, rRetN, rBrk, rCnt, rIfS, rSet, rPar, rFor, iSeq, iLst, iRg1, iRg2, iZp, iEn, iStrD, rLc, rYes, q_isi2, q_i2N, q_i2B, q_i2I, q_i2S, q_i2T, q_i2L, q_j2N, q_j2B, q_j2I, q_j2S, q_j2T, q_j2L, q_gt2, q_gtT, q_en, q_int2, q_strD, q_rev, q_ixo, q_ext2, q_extT, En.x, wipeD, start', List.getElem?_cons_zero, List.getElem?_cons_succ, List.set_cons_zero, List.set_cons_succ, List.map_cons, List.map_nil, List.length_cons, List.length_nil, List.cons_append, List.nil_append, List.replicate_succ, List.replicate_zero, id, q_asB, q_asI, q_add, q_addS, q_addT, q_addL, q_int, q_sub, q_mul, q_fdiv, q_mod, q_pow, q_neg, q_le, q_ge, q_gt, q_lt, q_ltT, q_isN, q_isB, q_isBi, q_isBs, q_isBn, q_isBt, q_isnt, n_non, n_bl, n_int, n_str, n_tup, n_ref, q_eq, q_eqS, q_eqB, q_ixT, q_ixK, q_ixL, q_ixS, q_slT, q_slL, q_slS, q_set, q_lenT, q_lenK, q_lenS, q_lenL, q_abs, q_intF, q_max, q_min, q_tupT, q_tupL, q_lstT, q_lstL, q_app, q_ext, q_joinL, q_stw, q_seq, q_lst, q_rng, q_rng2, q_zpT, q_zpL, q_truN, q_truB, q_truI, q_truT, q_truL, t_non, t_bl, t_int, t_str, t_tup, q_isiN, q_isiB, q_isiI, q_isiS, q_isiT, i_NoneType_int, i_NoneType_bool, i_NoneType_tuple, i_NoneType_list, i_NoneType_str, i_bool_int, i_bool_bool, i_bool_tuple, i_bool_list, i_bool_str, i_int_int, i_int_bool, i_int_tuple, i_int_list, i_int_str, i_str_int, i_str_bool, i_str_tuple, i_str_list, i_str_str, i_tuple_int, i_tuple_bool, i_tuple_tuple, i_tuple_list, i_tuple_str, i_list_int, i_list_bool, i_list_tuple, i_list_list, i_list_str, i_dict_int, i_dict_bool, i_dict_tuple, i_dict_list, i_dict_str, up_same, g_02, g_02', g_01, g_11, at_0, at_1, ix_0, ix_1, Option.some.injEq, HQ.lst.injEq, exists_eq_left', exists_eq_left, exists_and_left, exists_eq', exists_eq, decide_eq_true_eq, if_true, if_false, ite_true, ite_false, Bool.false_eq_true, reduceIte, reduceCtorEq, Bool.not_true, Bool.not_false, Nat.zero_add, Nat.reduceAdd, Nat.reduceSub, Nat.reduceLeDiff, Nat.reduceLT, Int.reduceLT, Int.reduceLE, Int.reduceEq, Int.reduceNe, Nat.reduceEqDiff, Int.reduceToNat, Int.reducePow, Int.reduceMul, Int.reduceAdd, Int.reduceSub, Int.reduceNeg, and_true, true_and, decide_true, decide_false]
  refine ⟨⟨by omega, by omega⟩, ?_⟩
  refine lc_draw (fun S' => Nx b S S') (fun d => ∃ z : Str, d = .str z ∧ z.length = 1 ∧ ∀ c ∈ z.cps.toList, Bi.Is c) (fun _ _ => trivial) _ _ _ (fun x _ S' Q' hi q => ?_) (by rw [rangeD_len]; simp; omega) (by simp) (Nx.refl hb) (fun acc S1 hl1 ha n1 => ?_)
  · simp only [rVar, rC, rBin, rUn, rTst, rChn, rTru, rAnd, rOr, rNot, rAndV, rOrV, rNotV, rIf, rNil, rCons, rTup, rLst, rFn, rCall, rCallK, rSl, rPrt, rNoP, rMt, gNm, q_gN, q_gC, q_gTp, gSb, rNext, rSeq, rDrop, rRet, rRetN, rBrk, rCnt, rIfS, rSet, rPar, rFor, iSeq, iLst, iRg1, iRg2, iZp, iEn, iStrD, rLc, rYes, q_isi2, q_i2N, q_i2B, q_i2I, q_i2S, q_i2T, q_i2L, q_j2N, q_j2B, q_j2I, q_j2S, q_j2T, q_j2L, q_gt2, q_gtT, q_en, q_int2, q_strD, q_rev, q_ixo, q_ext2, q_extT, En.x, wipeD, start', List.getElem?_cons_zero, List.getElem?_cons_succ, List.set_cons_zero, List.set_cons_succ, List.map_cons, List.map_nil, List.length_cons, List.length_nil, List.cons_append, List.nil_append, List.replicate_succ, List.replicate_zero, id, q_asB, q_asI, q_add, q_addS, q_addT, q_addL, q_int, q_sub, q_mul, q_fdiv, q_mod, q_pow, q_neg, q_le, q_ge, q_gt, q_lt, q_ltT, q_isN, q_isB, q_isBi, q_isBs, q_isBn, q_isBt, q_isnt, n_non, n_bl, n_int, n_str, n_tup, n_ref, q_eq, q_eqS, q_eqB, q_ixT, q_ixK, q_ixL, q_ixS, q_slT, q_slL, q_slS, q_set, q_lenT, q_lenK, q_lenS, q_lenL, q_abs, q_intF, q_max, q_min, q_tupT, q_tupL, q_lstT, q_lstL, q_app, q_ext, q_joinL, q_stw, q_seq, q_lst, q_rng, q_rng2, q_zpT, q_zpL, q_truN, q_truB, q_truI, q_truT, q_truL, t_non, t_bl, t_int, t_str, t_tup, q_isiN, q_isiB, q_isiI, q_isiS, q_isiT, i_NoneType_int, i_NoneType_bool, i_NoneType_tuple, i_NoneType_list, i_NoneType_str, i_bool_int, i_bool_bool, i_bool_tuple, i_bool_list, i_bool_str, i_int_int, i_int_bool, i_int_tuple, i_int_list, i_int_str, i_str_int, i_str_bool, i_str_tuple, i_str_list, i_str_str, i_tuple_int, i_tuple_bool, i_tuple_tuple, i_tuple_list, i_tuple_str, i_list_int, i_list_bool, i_list_tuple, i_list_list, i_list_str, i_dict_int, i_dict_bool, i_dict_tuple, i_dict_list, i_dict_str, up_same, g_02, g_02', g_01, g_11, at_0, at_1, ix_0, ix_1, Option.some.injEq, HQ.lst.injEq, exists_eq_left', exists_eq_left, exists_and_left, exists_eq', exists_eq, decide_eq_true_eq, if_true, if_false, ite_true, ite_false, Bool.false_eq_true, reduceIte, reduceCtorEq, Bool.not_true, Bool.not_false, Nat.zero_add, Nat.reduceAdd, Nat.reduceSub, Nat.reduceLeDiff, Nat.reduceLT, Int.reduceLT, Int.reduceLE, Int.reduceEq, Int.reduceNe, Nat.reduceEqDiff, Int.reduceToNat, Int.reducePow, Int.reduceMul, Int.reduceAdd, Int.reduceSub, Int.reduceNeg, and_true, true_and, decide_true, decide_false]
    intro p hp
    refine pick_of hi.bx hp (by simp) (by simp) fun d S2 hd n2 => q _ _ ?_ (hi.trans n2)
    simp only [List.mem_cons, List.not_mem_nil, or_false] at hd
    rcases hd with rfl | rfl
    · exact ⟨_, rfl, by decide +kernel, by decide +kernel⟩
    · exact ⟨_, rfl, by decide +kernel, by decide +kernel⟩
  obtain ⟨zs, e1, e2, e3, e4⟩ := strs_sg ha
  have hlen : acc.length ≤ 100 := by rw [hl1, rangeD_len]; simp; omega
  intro p hp
  have e0 : (Str.ofString "").length = 0 := by decide +kernel
  simp only [rVar, rC, rBin, rUn, rTst, rChn, rTru, rAnd, rOr, rNot, rAndV, rOrV, rNotV, rIf, rNil, rCons, rTup, rLst, rFn, rCall, rCallK, rSl, rPrt, rNoP, rMt, gNm, q_gN, q_gC, q_gTp, gSb, rNext, rSeq, rDrop, rRet, rRetN, rBrk, rCnt, rIfS, rSet, rPar, rFor, iSeq, iLst, iRg1, iRg2, iZp, iEn, iStrD, rLc, rYes, q_isi2, q_i2N, q_i2B, q_i2I, q_i2S, q_i2T, q_i2L, q_j2N, q_j2B, q_j2I, q_j2S, q_j2T, q_j2L, q_gt2, q_gtT, q_en, q_int2, q_strD, q_rev, q_ixo, q_ext2, q_extT, En.x, wipeD, start', List.getElem?_cons_zero, List.getElem?_cons_succ, List.set_cons_zero, List.set_cons_succ, List.map_cons, List.map_nil, List.length_cons, List.length_nil, List.cons_append, List.nil_append, List.replicate_succ, List.replicate_zero, id, q_asB, q_asI, q_add, q_addS, q_addT, q_addL, q_int, q_sub, q_mul, q_fdiv, q_mod, q_pow, q_neg, q_le, q_ge, q_gt, q_lt, q_ltT, q_isN, q_isB, q_isBi, q_isBs, q_isBn, q_isBt, q_isnt, n_non, n_bl, n_int, n_str, n_tup, n_ref, q_eq, q_eqS, q_eqB, q_ixT, q_ixK, q_ixL, q_ixS, q_slT, q_slL, q_slS, q_set, q_lenT, q_lenK, q_lenS, q_lenL, q_abs, q_intF, q_max, q_min, q_tupT, q_tupL, q_lstT, q_lstL, q_app, q_ext, q_joinL, q_stw, q_seq, q_lst, q_rng, q_rng2, q_zpT, q_zpL, q_truN, q_truB, q_truI, q_truT, q_truL, t_non, t_bl, t_int, t_str, t_tup, q_isiN, q_isiB, q_isiI, q_isiS, q_isiT, i_NoneType_int, i_NoneType_bool, i_NoneType_tuple, i_NoneType_list, i_NoneType_str, i_bool_int, i_bool_bool, i_bool_tuple, i_bool_list, i_bool_str, i_int_int, i_int_bool, i_int_tuple, i_int_list, i_int_str, i_str_int, i_str_bool, i_str_tuple, i_str_list, i_str_str, i_tuple_int, i_tuple_bool, i_tuple_tuple, i_tuple_list, i_tuple_str, i_list_int, i_list_bool, i_list_tuple, i_list_list, i_list_str, i_dict_int, i_dict_bool, i_dict_tuple, i_dict_list, i_dict_str, up_same, g_02, g_02', g_01, g_11, at_0, at_1, ix_0, ix_1, Option.some.injEq, HQ.lst.injEq, exists_eq_left', exists_eq_left, exists_and_left, exists_eq', exists_eq, decide_eq_true_eq, if_true, if_false, ite_true, ite_false, Bool.false_eq_true, reduceIte, reduceCtorEq, Bool.not_true, Bool.not_false, Nat.zero_add, Nat.reduceAdd, Nat.reduceSub, Nat.reduceLeDiff, Nat.reduceLT, Int.reduceLT, Int.reduceLE, Int.reduceEq, Int.reduceNe, Nat.reduceEqDiff, Int.reduceToNat, Int.reducePow, Int.reduceMul, Int.reduceAdd, Int.reduceSub, Int.reduceNeg, and_true, true_and, decide_true, decide_false, up_same, e1]
  refine ⟨by rw [e3, e2, e0]; omega, ?_⟩
  refine k _ _ ⟨?_, ?_⟩ (n1.trans (Nx.new n1.bx hp))
  · have h := PySem.StrLaws.join_length_le (Str.ofString "") zs
    rw [TL.join_eq]
    rw [e3, e0] at h; omega
  · rw [TL.join_eq]; exact join_is e4

def sp_law_entry : Sq := fun ds S Q _ => ∃ b, ds = [.ref b] ∧ Bx S b ∧ ∀ i S', -(2 ^ 59) < i → i < 2 ^ 59 → Nx b S S' → Q (.int i) S'
theorem ln_law_entry : ∀ ds S Q E, sp_law_entry ds S Q E → ds.length = 1 := by rintro _ _ _ _ ⟨b, rfl, _⟩; rfl
theorem nx_law_entry : ∀ ds S Q E, sp_law_entry ds S Q E → sp_law_entry ds S Q NoX := fun _ _ _ _ h => h
theorem entry_of {b : Addr} {S : Hq} {Q : Qv} (hb : Bx S b) (q : ∀ i S', -(2 ^ 59) < i → i < 2 ^ 59 → Nx b S S' → Q (.int i) S') : sp_law_entry [.ref b] S Q NoX := ⟨b, rfl, hb, q⟩

def rd_law_entry : RSt :=
 (rSeq (rSet (rCall sp_law_take (rCons (rVar 0) (rCons (rC (.int 6)) rNil))) (gNm 1))
 (rSeq (rIfS (rTst (rBin ltD (rVar 1) (rC (.int 2))))
 (rRet (rBin subD (rCall sp_law_take (rCons (rVar 0) (rCons (rC (.int 5)) rNil))) (rC (.int 2))))
 rNext)
 (rSeq (rIfS (rTst (rBin ltD (rVar 1) (rC (.int 4))))
 (rSeq (rSet (rCall sp_law_pick (rCons (rVar 0) (rCons (rLst (rCons (rC (.int 63)) (rCons (rC (.int 64)) (rCons (rC (.int 127)) (rCons (rC (.int 128)) (rCons (rC (.int 8191)) (rCons (rC (.int 8192)) (rCons (rC (.int 16383)) (rCons (rC (.int 16384)) (rCons (rC (.int 1048575)) (rCons (rC (.int 1048576)) (rCons (rBin powD (rC (.int 10)) (rC (.int 12))) rNil)))))))))))) rNil))) (gNm 2))
 (rRet (rCall sp_law_pick (rCons (rVar 0) (rCons (rLst (rCons (rVar 2) (rCons (rBin subD (rC (.int 0)) (rVar 2)) (rCons (rBin subD (rBin subD (rC (.int 0)) (rVar 2)) (rC (.int 1))) (rCons (rBin addD (rVar 2) (rC (.int 1))) rNil))))) rNil)))))
 rNext)
 (rRet (rBin subD (rCall sp_law_take (rCons (rVar 0) (rCons (rBin addD (rBin mulD (rC (.int 2)) (rBin powD (rC (.int 10)) (rC (.int 12)))) (rC (.int 1))) rNil))) (rBin powD (rC (.int 10)) (rC (.int 12))))))))

theorem pu_law_entry : ∀ ds S Q, sp_law_entry ds S Q NoX → rd_law_entry { nx := fun _ S => Q .non S, rt := Q } (start' 3 ds) S := by

  rintro _ S Q ⟨b, rfl, hb, k⟩
  unfold rd_law_entry
  simp only [rVar, rC, rBin, rUn, rTst, rChn, rTru, rAnd, rOr, rNot, rAndV, rOrV, rNotV, rIf, rNil, rCons, rTup, rLst, rFn, rCall, rCallK, rSl, rPrt, rNoP, rMt, gNm, q_gN, q_gC, q_gTp, gSb, rNext, rSeq, rDrop, rRet, rRetN, rBrk, rCnt, rIfS, rSet, rPar, rFor, iSeq, iLst, iRg1, iRg2, iZp, iEn, iStrD, rLc, rYes, q_isi2, q_i2N, q_i2B, q_i2I, q_i2S, q_i2T, q_i2L, q_j2N, q_j2B, q_j2I, q_j2S, q_j2T, q_j2L, q_gt2, q_gtT, q_en, q_int2, q_strD, q_rev, q_ixo, q_ext2, q_extT, En.x, wipeD, start', List.getElem?_cons_zero, List.getElem?_cons_succ, List.set_cons_zero, List.set_cons_succ, List.map_cons, List.map_nil, List.length_cons, List.length_nil, List.cons_append, List.nil_append, List.replicate_succ, List.replicate_zero, id, q_asB, q_asI, q_add, q_addS, q_addT, q_addL, q_int, q_sub, q_mul, q_fdiv, q_mod, q_pow, q_neg, q_le, q_ge, q_gt, q_lt, q_ltT, q_isN, q_isB, q_isBi, q_isBs, q_isBn, q_isBt, q_isnt, n_non, n_bl, n_int, n_str, n_tup, n_ref, q_eq, q_eqS, q_eqB, q_ixT, q_ixK, q_ixL, q_ixS, q_slT, q_slL, q_slS, q_set, q_lenT, q_lenK, q_lenS, q_lenL, q_abs, q_intF, q_max, q_min, q_tupT, q_tupL, q_lstT, q_lstL, q_app, q_ext, q_joinL, q_stw, q_seq, q_lst, q_rng, q_rng2, q_zpT, q_zpL, q_truN, q_truB, q_truI, q_truT, q_truL, t_non, t_bl, t_int, t_str, t_tup, q_isiN, q_isiB, q_isiI, q_isiS, q_isiT, i_NoneType_int, i_NoneType_bool, i_NoneType_tuple, i_NoneType_list, i_NoneType_str, i_bool_int, i_bool_bool, i_bool_tuple, i_bool_list, i_bool_str, i_int_int, i_int_bool, i_int_tuple, i_int_list, i_int_str, i_str_int, i_str_bool, i_str_tuple, i_str_list, i_str_str, i_tuple_int, i_tuple_bool, i_tuple_tuple, i_tuple_list, i_tuple_str, i_list_int, i_list_bool, i_list_tuple, i_list_list, i_list_str, i_dict_int, i_dict_bool, i_dict_tuple, i_dict_list, i_dict_str, up_same, g_02, g_02', g_01, g_11, at_0, at_1, ix_0, ix_1, Option.some.injEq, HQ.lst.injEq, exists_eq_left', exists_eq_left, exists_and_left, exists_eq', exists_eq, decide_eq_true_eq, if_true, if_false, ite_true, ite_false, Bool.false_eq_true, reduceIte, reduceCtorEq, Bool.not_true, Bool.not_false, Nat.zero_add, Nat.reduceAdd, Nat.reduceSub, Nat.reduceLeDiff, Nat.reduceLT, Int.reduceLT, Int.reduceLE, Int.reduceEq, Int.reduceNe, Nat.reduceEqDiff, Int.reduceToNat, Int.reducePow, Int.reduceMul, Int.reduceAdd, Int.reduceSub, Int.reduceNeg, and_true, true_and, decide_true, decide_false]
  refine take_of hb (by decide) (by decide) fun r S1 _ _ n1 => ?_
  simp only [rVar, rC, rBin, rUn, rTst, rChn, rTru, rAnd, rOr, rNot, rAndV, rOrV, rNotV, rIf, rNil, rCons, rTup, rLst, rFn, rCall, rCallK, rSl, rPrt, rNoP, rMt, gNm, q_gN, q_gC, q_gTp, gSb, rNext, rSeq, rDrop, rRet, rRetN, rBrk, rCnt, rIfS, rSet, rPar, rFor, iSeq, iLst, iRg1, iRg2, iZp, iEn, iStrD, rLc, rYes, q_isi2, q_i2N, q_i2B, q_i2I, q_i2S, q_i2T, q_i2L, q_j2N, q_j2B, q_j2I, q_j2S, q_j2T, q_j2L, q_gt2, q_gtT, q_en, q_int2, q_strD, q_rev, q_ixo, q_ext2, q_extT, En.x, wipeD, start', List.getElem?_cons_zero, List.getElem?_cons_succ, List.set_cons_zero, List.set_cons_succ, List.map_cons, List.map_nil, List.length_cons, List.length_nil, List.cons_append, List.nil_append, List.replicate_succ, List.replicate_zero, id, q_asB, q_asI, q_add, q_addS, q_addT, q_addL, q_int, q_sub, q_mul, q_fdiv, q_mod, q_pow, q_neg, q_le, q_ge, q_gt, q_lt, q_ltT, q_isN, q_isB, q_isBi, q_isBs, q_isBn, q_isBt, q_isnt, n_non, n_bl, n_int, n_str, n_tup, n_ref, q_eq, q_eqS, q_eqB, q_ixT, q_ixK, q_ixL, q_ixS, q_slT, q_slL, q_slS, q_set, q_lenT, q_lenK, q_lenS, q_lenL, q_abs, q_intF, q_max, q_min, q_tupT, q_tupL, q_lstT, q_lstL, q_app, q_ext, q_joinL, q_stw, q_seq, q_lst, q_rng, q_rng2, q_zpT, q_zpL, q_truN, q_truB, q_truI, q_truT, q_truL, t_non, t_bl, t_int, t_str, t_tup, q_isiN, q_isiB, q_isiI, q_isiS, q_isiT, i_NoneType_int, i_NoneType_bool, i_NoneType_tuple, i_NoneType_list, i_NoneType_str, i_bool_int, i_bool_bool, i_bool_tuple, i_bool_list, i_bool_str, i_int_int, i_int_bool, i_int_tuple, i_int_list, i_int_str, i_str_int, i_str_bool, i_str_tuple, i_str_list, i_str_str, i_tuple_int, i_tuple_bool, i_tuple_tuple, i_tuple_list, i_tuple_str, i_list_int, i_list_bool, i_list_tuple, i_list_list, i_list_str, i_dict_int, i_dict_bool, i_dict_tuple, i_dict_list, i_dict_str, up_same, g_02, g_02', g_01, g_11, at_0, at_1, ix_0, ix_1, Option.some.injEq, HQ.lst.injEq, exists_eq_left', exists_eq_left, exists_and_left, exists_eq', exists_eq, decide_eq_true_eq, if_true, if_false, ite_true, ite_false, Bool.false_eq_true, reduceIte, reduceCtorEq, Bool.not_true, Bool.not_false, Nat.zero_add, Nat.reduceAdd, Nat.reduceSub, Nat.reduceLeDiff, Nat.reduceLT, Int.reduceLT, Int.reduceLE, Int.reduceEq, Int.reduceNe, Nat.reduceEqDiff, Int.reduceToNat, Int.reducePow, Int.reduceMul, Int.reduceAdd, Int.reduceSub, Int.reduceNeg, and_true, true_and, decide_true, decide_false]
  split
  · refine take_of n1.bx (by decide) (by decide) fun r S2 h1 h2 n2 => ?_
    simp only [rVar, rC, rBin, rUn, rTst, rChn, rTru, rAnd, rOr, rNot, rAndV, rOrV, rNotV, rIf, rNil, rCons, rTup, rLst, rFn, rCall, rCallK, rSl, rPrt, rNoP, rMt, gNm, q_gN, q_gC, q_gTp, gSb, rNext, rSeq, rDrop, rRet, rRetN, rBrk, rCnt, rIfS, rSet, rPar, rFor, iSeq, iLst, iRg1, iRg2, iZp, iEn, iStrD, rLc, rYes, q_isi2, q_i2N, q_i2B, q_i2I, q_i2S, q_i2T, q_i2L, q_j2N, q_j2B, q_j2I, q_j2S, q_j2T, q_j2L, q_gt2, q_gtT, q_en, q_int2, q_strD, q_rev, q_ixo, q_ext2, q_extT, En.x, wipeD, start', List.getElem?_cons_zero, List.getElem?_cons_succ, List.set_cons_zero, List.set_cons_succ, List.map_cons, List.map_nil, List.length_cons, List.length_nil, List.cons_append, List.nil_append, List.replicate_succ, List.replicate_zero, id, q_asB, q_asI, q_add, q_addS, q_addT, q_addL, q_int, q_sub, q_mul, q_fdiv, q_mod, q_pow, q_neg, q_le, q_ge, q_gt, q_lt, q_ltT, q_isN, q_isB, q_isBi, q_isBs, q_isBn, q_isBt, q_isnt, n_non, n_bl, n_int, n_str, n_tup, n_ref, q_eq, q_eqS, q_eqB, q_ixT, q_ixK, q_ixL, q_ixS, q_slT, q_slL, q_slS, q_set, q_lenT, q_lenK, q_lenS, q_lenL, q_abs, q_intF, q_max, q_min, q_tupT, q_tupL, q_lstT, q_lstL, q_app, q_ext, q_joinL, q_stw, q_seq, q_lst, q_rng, q_rng2, q_zpT, q_zpL, q_truN, q_truB, q_truI, q_truT, q_truL, t_non, t_bl, t_int, t_str, t_tup, q_isiN, q_isiB, q_isiI, q_isiS, q_isiT, i_NoneType_int, i_NoneType_bool, i_NoneType_tuple, i_NoneType_list, i_NoneType_str, i_bool_int, i_bool_bool, i_bool_tuple, i_bool_list, i_bool_str, i_int_int, i_int_bool, i_int_tuple, i_int_list, i_int_str, i_str_int, i_str_bool, i_str_tuple, i_str_list, i_str_str, i_tuple_int, i_tuple_bool, i_tuple_tuple, i_tuple_list, i_tuple_str, i_list_int, i_list_bool, i_list_tuple, i_list_list, i_list_str, i_dict_int, i_dict_bool, i_dict_tuple, i_dict_list, i_dict_str, up_same, g_02, g_02', g_01, g_11, at_0, at_1, ix_0, ix_1, Option.some.injEq, HQ.lst.injEq, exists_eq_left', exists_eq_left, exists_and_left, exists_eq', exists_eq, decide_eq_true_eq, if_true, if_false, ite_true, ite_false, Bool.false_eq_true, reduceIte, reduceCtorEq, Bool.not_true, Bool.not_false, Nat.zero_add, Nat.reduceAdd, Nat.reduceSub, Nat.reduceLeDiff, Nat.reduceLT, Int.reduceLT, Int.reduceLE, Int.reduceEq, Int.reduceNe, Nat.reduceEqDiff, Int.reduceToNat, Int.reducePow, Int.reduceMul, Int.reduceAdd, Int.reduceSub, Int.reduceNeg, and_true, true_and, decide_true, decide_false]
    exact k _ _ (by omega) (by omega) (n1.trans n2)
  · split
    · refine ⟨⟨by decide, by decide, by decide, by decide⟩, ?_⟩
      intro p hp
      refine pick_of n1.bx hp (by decide) (by decide) fun d S2 hd n2 => ?_
      obtain ⟨e, he, rfl⟩ := mem_ints (l := [_, _, _, _, _, _, _, _, _, _, _]) hd
      have he' : 0 ≤ e ∧ e ≤ 2 ^ 50 := by
        have : ∀ i ∈ ([63, 64, 127, 128, 8191, 8192, 16383, 16384, 1048575, 1048576, 1000000000000] : List Int), 0 ≤ i ∧ i ≤ 2 ^ 50 := by decide
        exact this e he
      simp only [rVar, rC, rBin, rUn, rTst, rChn, rTru, rAnd, rOr, rNot, rAndV, rOrV, rNotV, rIf, rNil, rCons, rTup, rLst, rFn, rCall, rCallK, rSl, rPrt, rNoP, rMt, gNm, q_gN, q_gC, q_gTp, gSb, rNext, rSeq, rDrop, rRet, rRetN, rBrk, rCnt, rIfS, rSet, rPar, rFor, iSeq, iLst, iRg1, iRg2, iZp, iEn, iStrD, rLc, rYes, q_isi2, q_i2N, q_i2B, q_i2I, q_i2S, q_i2T, q_i2L, q_j2N, q_j2B, q_j2I, q_j2S, q_j2T, q_j2L, q_gt2, q_gtT, q_en, q_int2, q_strD, q_rev, q_ixo, q_ext2, q_extT, En.x, wipeD, start', List.getElem?_cons_zero, List.getElem?_cons_succ, List.set_cons_zero, List.set_cons_succ, List.map_cons, List.map_nil, List.length_cons, List.length_nil, List.cons_append, List.nil_append, List.replicate_succ, List.replicate_zero, id, q_asB, q_asI, q_add, q_addS, q_addT, q_addL, q_int, q_sub, q_mul, q_fdiv, q_mod, q_pow, q_neg, q_le, q_ge, q_gt, q_lt, q_ltT, q_isN, q_isB, q_isBi, q_isBs, q_isBn, q_isBt, q_isnt, n_non, n_bl, n_int, n_str, n_tup, n_ref, q_eq, q_eqS, q_eqB, q_ixT, q_ixK, q_ixL, q_ixS, q_slT, q_slL, q_slS, q_set, q_lenT, q_lenK, q_lenS, q_lenL, q_abs, q_intF, q_max, q_min, q_tupT, q_tupL, q_lstT, q_lstL, q_app, q_ext, q_joinL, q_stw, q_seq, q_lst, q_rng, q_rng2, q_zpT, q_zpL, q_truN, q_truB, q_truI, q_truT, q_truL, t_non, t_bl, t_int, t_str, t_tup, q_isiN, q_isiB, q_isiI, q_isiS, q_isiT, i_NoneType_int, i_NoneType_bool, i_NoneType_tuple, i_NoneType_list, i_NoneType_str, i_bool_int, i_bool_bool, i_bool_tuple, i_bool_list, i_bool_str, i_int_int, i_int_bool, i_int_tuple, i_int_list, i_int_str, i_str_int, i_str_bool, i_str_tuple, i_str_list, i_str_str, i_tuple_int, i_tuple_bool, i_tuple_tuple, i_tuple_list, i_tuple_str, i_list_int, i_list_bool, i_list_tuple, i_list_list, i_list_str, i_dict_int, i_dict_bool, i_dict_tuple, i_dict_list, i_dict_str, up_same, g_02, g_02', g_01, g_11, at_0, at_1, ix_0, ix_1, Option.some.injEq, HQ.lst.injEq, exists_eq_left', exists_eq_left, exists_and_left, exists_eq', exists_eq, decide_eq_true_eq, if_true, if_false, ite_true, ite_false, Bool.false_eq_true, reduceIte, reduceCtorEq, Bool.not_true, Bool.not_false, Nat.zero_add, Nat.reduceAdd, Nat.reduceSub, Nat.reduceLeDiff, Nat.reduceLT, Int.reduceLT, Int.reduceLE, Int.reduceEq, Int.reduceNe, Nat.reduceEqDiff, Int.reduceToNat, Int.reducePow, Int.reduceMul, Int.reduceAdd, Int.reduceSub, Int.reduceNeg, and_true, true_and, decide_true, decide_false]
      intro p2 hp2
      refine pick_of n2.bx hp2 (by simp) (by simp) fun d S3 hd n3 => ?_
      obtain ⟨i, hi, rfl⟩ := mem_ints (l := [_, _, _, _]) hd
      have : -(2 ^ 59) < i ∧ i < 2 ^ 59 := by
        simp only [List.mem_cons, List.not_mem_nil, or_false] at hi
        rcases hi with rfl | rfl | rfl | rfl <;> omega
      exact k _ _ this.1 this.2 ((n1.trans n2).trans n3)
    · refine ⟨⟨by decide, by decide, by decide, by decide⟩, cm_r (by decide) (by decide), take_of n1.bx (by decide) (by decide) fun r S2 h1 h2 n2 => ?_⟩
      simp only [rVar, rC, rBin, rUn, rTst, rChn, rTru, rAnd, rOr, rNot, rAndV, rOrV, rNotV, rIf, rNil, rCons, rTup, rLst, rFn, rCall, rCallK, rSl, rPrt, rNoP, rMt, gNm, q_gN, q_gC, q_gTp, gSb, rNext, rSeq, rDrop, rRet, rRetN, rBrk, rCnt, rIfS, rSet, rPar, rFor, iSeq, iLst, iRg1, iRg2, iZp, iEn, iStrD, rLc, rYes, q_isi2, q_i2N, q_i2B, q_i2I, q_i2S, q_i2T, q_i2L, q_j2N, q_j2B, q_j2I, q_j2S, q_j2T, q_j2L, q_gt2, q_gtT, q_en, q_int2, q_strD, q_rev, q_ixo, q_ext2, q_extT, En.x, wipeD, start', List.getElem?_cons_zero, List.getElem?_cons_succ, List.set_cons_zero, List.set_cons_succ, List.map_cons, List.map_nil, List.length_cons, List.length_nil, List.cons_append, List.nil_append, List.replicate_succ, List.replicate_zero, id, q_asB, q_asI, q_add, q_addS, q_addT, q_addL, q_int, q_sub, q_mul, q_fdiv, q_mod, q_pow, q_neg, q_le, q_ge, q_gt, q_lt, q_ltT, q_isN, q_isB, q_isBi, q_isBs, q_isBn, q_isBt, q_isnt, n_non, n_bl, n_int, n_str, n_tup, n_ref, q_eq, q_eqS, q_eqB, q_ixT, q_ixK, q_ixL, q_ixS, q_slT, q_slL, q_slS, q_set, q_lenT, q_lenK, q_lenS, q_lenL, q_abs, q_intF, q_max, q_min, q_tupT, q_tupL, q_lstT, q_lstL, q_app, q_ext, q_joinL, q_stw, q_seq, q_lst, q_rng, q_rng2, q_zpT, q_zpL, q_truN, q_truB, q_truI, q_truT, q_truL, t_non, t_bl, t_int, t_str, t_tup, q_isiN, q_isiB, q_isiI, q_isiS, q_isiT, i_NoneType_int, i_NoneType_bool, i_NoneType_tuple, i_NoneType_list, i_NoneType_str, i_bool_int, i_bool_bool, i_bool_tuple, i_bool_list, i_bool_str, i_int_int, i_int_bool, i_int_tuple, i_int_list, i_int_str, i_str_int, i_str_bool, i_str_tuple, i_str_list, i_str_str, i_tuple_int, i_tuple_bool, i_tuple_tuple, i_tuple_list, i_tuple_str, i_list_int, i_list_bool, i_list_tuple, i_list_list, i_list_str, i_dict_int, i_dict_bool, i_dict_tuple, i_dict_list, i_dict_str, up_same, g_02, g_02', g_01, g_11, at_0, at_1, ix_0, ix_1, Option.some.injEq, HQ.lst.injEq, exists_eq_left', exists_eq_left, exists_and_left, exists_eq', exists_eq, decide_eq_true_eq, if_true, if_false, ite_true, ite_false, Bool.false_eq_true, reduceIte, reduceCtorEq, Bool.not_true, Bool.not_false, Nat.zero_add, Nat.reduceAdd, Nat.reduceSub, Nat.reduceLeDiff, Nat.reduceLT, Int.reduceLT, Int.reduceLE, Int.reduceEq, Int.reduceNe, Nat.reduceEqDiff, Int.reduceToNat, Int.reducePow, Int.reduceMul, Int.reduceAdd, Int.reduceSub, Int.reduceNeg, and_true, true_and, decide_true, decide_false]
      exact ⟨⟨by decide, by decide, by decide, by decide⟩, k _ _ (by omega) (by omega) (n1.trans n2)⟩

def sp_law_figure : Sq := fun ds S Q _ => ∃ b, ds = [.ref b] ∧ Bx S b ∧ ∀ o S', (∀ ns, o = some ns → NuOk ns) → Nx b S S' → Q (ofO o) S'
theorem ln_law_figure : ∀ ds S Q E, sp_law_figure ds S Q E → ds.length = 1 := by rintro _ _ _ _ ⟨b, rfl, _⟩; rfl
theorem nx_law_figure : ∀ ds S Q E, sp_law_figure ds S Q E → sp_law_figure ds S Q NoX := fun _ _ _ _ h => h
theorem figure_of {b : Addr} {S : Hq} {Q : Qv} (hb : Bx S b) (q : ∀ o S', (∀ ns, o = some ns → NuOk ns) → Nx b S S' → Q (ofO o) S') : sp_law_figure [.ref b] S Q NoX := ⟨b, rfl, hb, q⟩
theorem ints_ofP {p : Int → Prop} : ∀ {ds : List D}, (∀ y ∈ ds, ∃ i, y = D.int i ∧ p i) → ∃ is : List Int, ds = is.map D.int ∧ ∀ i ∈ is, p i
  | [], _ => ⟨[], rfl, fun _ h => by cases h⟩
  | d :: ds, h => by
    obtain ⟨i, rfl, hi⟩ := h d List.mem_cons_self
    obtain ⟨is, rfl, hs⟩ := ints_ofP (ds := ds) fun y hy => h y (List.mem_cons_of_mem _ hy)
    exact ⟨i :: is, rfl, fun j hj => by rcases List.mem_cons.mp hj with rfl | hj; exact hi; exact hs j hj⟩

def rd_law_figure : RSt :=
 (rSeq (rSet (rCall sp_law_pick (rCons (rVar 0) (rCons (rLst (rCons (rC (.int 0)) (rCons (rC (.int 1)) (rCons (rC (.int 1)) (rCons (rC (.int 1)) (rCons (rC (.int 2)) (rCons (rC (.int 2)) (rCons (rC (.int 3)) (rCons (rC (.int 5)) (rCons (rC (.int 9)) (rCons (rC (.int 13)) rNil))))))))))) rNil))) (gNm 1))
 (rSeq (rIfS (rTst (rBin (eqD id) (rVar 1) (rC (.int 0))))
 (rRet (rC .non))
 rNext)
 (rSeq (rSet (rLc (iRg1 (rCons (rVar 1) rNil)) (gNm 3) rYes (rCall sp_law_entry (rCons (rVar 0) rNil)) [3]) (gNm 2))
 (rSeq (rSet (rFn absD (rCons (rBin ixD (rVar 2) (rC (.int 0))) rNil)) (gSb (rVar 2) (rC (.int 0))))
 (rRet (rFn tupF (rCons (rBin addD (rVar 2) (rLst (rCons (rCall sp_law_pick (rCons (rVar 0) (rCons (rLst (rCons (rC (.int 0)) (rCons (rC (.int 31)) (rCons (rCall sp_law_take (rCons (rVar 0) (rCons (rC (.int 32)) rNil))) (rCons (rCall sp_law_take (rCons (rVar 0) (rCons (rC (.int 32)) rNil))) rNil))))) rNil))) rNil))) rNil)))))))

theorem pu_law_figure : ∀ ds S Q, sp_law_figure ds S Q NoX → rd_law_figure { nx := fun _ S => Q .non S, rt := Q } (start' 4 ds) S := by

  rintro _ S Q ⟨b, rfl, hb, k⟩
  unfold rd_law_figure
  simp only [rVar, rC, rBin, rUn, rTst, rChn, rTru, rAnd, rOr, rNot, rAndV, rOrV, rNotV, rIf, rNil, rCons, rTup, rLst, rFn, rCall, rCallK, rSl, rPrt, rNoP, rMt, gNm, q_gN, q_gC, q_gTp, gSb, rNext, rSeq, rDrop, rRet, rRetN, rBrk, rCnt, rIfS, rSet, rPar, rFor, iSeq, iLst, iRg1, iRg2, iZp, iEn, iStrD, rLc, rYes, q_isi2, q_i2N, q_i2B, q_i2I, q_i2S, q_i2T, q_i2L, q_j2N, q_j2B, q_j2I, q_j2S, q_j2T, q_j2L, q_gt2, q_gtT, q_en, q_int2, q_strD, q_rev, q_ixo, q_ext2, q_extT, En.x, wipeD, start', List.getElem?_cons_zero, List.getElem?_cons_succ, List.set_cons_zero, List.set_cons_succ, List.map_cons, List.map_nil, List.length_cons, List.length_nil, List.cons_append, List.nil_append, List.replicate_succ, List.replicate_zero, id, q_asB, q_asI, q_add, q_addS, q_addT, q_addL, q_int, q_sub, q_mul, q_fdiv, q_mod, q_pow, q_neg, q_le, q_ge, q_gt, q_lt, q_ltT, q_isN, q_isB, q_isBi, q_isBs, q_isBn, q_isBt, q_isnt, n_non, n_bl, n_int, n_str, n_tup, n_ref, q_eq, q_eqS, q_eqB, q_ixT, q_ixK, q_ixL, q_ixS, q_slT, q_slL, q_slS, q_set, q_lenT, q_lenK, q_lenS, q_lenL, q_abs, q_intF, q_max, q_min, q_tupT, q_tupL, q_lstT, q_lstL, q_app, q_ext, q_joinL, q_stw, q_seq, q_lst, q_rng, q_rng2, q_zpT, q_zpL, q_truN, q_truB, q_truI, q_truT, q_truL, t_non, t_bl, t_int, t_str, t_tup, q_isiN, q_isiB, q_isiI, q_isiS, q_isiT, i_NoneType_int, i_NoneType_bool, i_NoneType_tuple, i_NoneType_list, i_NoneType_str, i_bool_int, i_bool_bool, i_bool_tuple, i_bool_list, i_bool_str, i_int_int, i_int_bool, i_int_tuple, i_int_list, i_int_str, i_str_int, i_str_bool, i_str_tuple, i_str_list, i_str_str, i_tuple_int, i_tuple_bool, i_tuple_tuple, i_tuple_list, i_tuple_str, i_list_int, i_list_bool, i_list_tuple, i_list_list, i_list_str, i_dict_int, i_dict_bool, i_dict_tuple, i_dict_list, i_dict_str, up_same, g_02, g_02', g_01, g_11, at_0, at_1, ix_0, ix_1, Option.some.injEq, HQ.lst.injEq, exists_eq_left', exists_eq_left, exists_and_left, exists_eq', exists_eq, decide_eq_true_eq, if_true, if_false, ite_true, ite_false, Bool.false_eq_true, reduceIte, reduceCtorEq, Bool.not_true, Bool.not_false, Nat.zero_add, Nat.reduceAdd, Nat.reduceSub, Nat.reduceLeDiff, Nat.reduceLT, Int.reduceLT, Int.reduceLE, Int.reduceEq, Int.reduceNe, Nat.reduceEqDiff, Int.reduceToNat, Int.reducePow, Int.reduceMul, Int.reduceAdd, Int.reduceSub, Int.reduceNeg, and_true, true_and, decide_true, decide_false]
  intro p hp
  refine pick_of hb hp (by decide) (by decide) fun d S1 hd n1 => ?_
  obtain ⟨many, hm, rfl⟩ := mem_ints (l := [_, _, _, _, _, _, _, _, _, _]) hd
  have hm' : 0 ≤ many ∧ many ≤ 13 := by
    have : ∀ i ∈ ([0, 1, 1, 1, 2, 2, 3, 5, 9, 13] : List Int), 0 ≤ i ∧ i ≤ 13 := by decide
    exact this many hm
  simp only [rVar, rC, rBin, rUn, rTst, rChn, rTru, rAnd, rOr, rNot, rAndV, rOrV, rNotV, rIf, rNil, rCons, rTup, rLst, rFn, rCall, rCallK, rSl, rPrt, rNoP, rMt, gNm, q_gN, q_gC, q_gTp, gSb, rNext, rSeq, rDrop, rRet, rRetN, rBrk, rCnt, rIfS, rSet, rPar, rFor, iSeq, iLst, iRg1, iRg2, iZp, iEn, iStrD, rLc, rYes, q_isi2, q_i2N, q_i2B, q_i2I, q_i2S, q_i2T, q_i2L, q_j2N, q_j2B, q_j2I, q_j2S, q_j2T, q_j2L, q_gt2, q_gtT, q_en, q_int2, q_strD, q_rev, q_ixo, q_ext2, q_extT, En.x, wipeD, start', List.getElem?_cons_zero, List.getElem?_cons_succ, List.set_cons_zero, List.set_cons_succ, List.map_cons, List.map_nil, List.length_cons, List.length_nil, List.cons_append, List.nil_append, List.replicate_succ, List.replicate_zero, id, q_asB, q_asI, q_add, q_addS, q_addT, q_addL, q_int, q_sub, q_mul, q_fdiv, q_mod, q_pow, q_neg, q_le, q_ge, q_gt, q_lt, q_ltT, q_isN, q_isB, q_isBi, q_isBs, q_isBn, q_isBt, q_isnt, n_non, n_bl, n_int, n_str, n_tup, n_ref, q_eq, q_eqS, q_eqB, q_ixT, q_ixK, q_ixL, q_ixS, q_slT, q_slL, q_slS, q_set, q_lenT, q_lenK, q_lenS, q_lenL, q_abs, q_intF, q_max, q_min, q_tupT, q_tupL, q_lstT, q_lstL, q_app, q_ext, q_joinL, q_stw, q_seq, q_lst, q_rng, q_rng2, q_zpT, q_zpL, q_truN, q_truB, q_truI, q_truT, q_truL, t_non, t_bl, t_int, t_str, t_tup, q_isiN, q_isiB, q_isiI, q_isiS, q_isiT, i_NoneType_int, i_NoneType_bool, i_NoneType_tuple, i_NoneType_list, i_NoneType_str, i_bool_int, i_bool_bool, i_bool_tuple, i_bool_list, i_bool_str, i_int_int, i_int_bool, i_int_tuple, i_int_list, i_int_str, i_str_int, i_str_bool, i_str_tuple, i_str_list, i_str_str, i_tuple_int, i_tuple_bool, i_tuple_tuple, i_tuple_list, i_tuple_str, i_list_int, i_list_bool, i_list_tuple, i_list_list, i_list_str, i_dict_int, i_dict_bool, i_dict_tuple, i_dict_list, i_dict_str, up_same, g_02, g_02', g_01, g_11, at_0, at_1, ix_0, ix_1, Option.some.injEq, HQ.lst.injEq, exists_eq_left', exists_eq_left, exists_and_left, exists_eq', exists_eq, decide_eq_true_eq, if_true, if_false, ite_true, ite_false, Bool.false_eq_true, reduceIte, reduceCtorEq, Bool.not_true, Bool.not_false, Nat.zero_add, Nat.reduceAdd, Nat.reduceSub, Nat.reduceLeDiff, Nat.reduceLT, Int.reduceLT, Int.reduceLE, Int.reduceEq, Int.reduceNe, Nat.reduceEqDiff, Int.reduceToNat, Int.reducePow, Int.reduceMul, Int.reduceAdd, Int.reduceSub, Int.reduceNeg, and_true, true_and, decide_true, decide_false]
  by_cases c0 : many = 0
  · simp only [c0, rVar, rC, rBin, rUn, rTst, rChn, rTru, rAnd, rOr, rNot, rAndV, rOrV, rNotV, rIf, rNil, rCons, rTup, rLst, rFn, rCall, rCallK, rSl, rPrt, rNoP, rMt, gNm, q_gN, q_gC, q_gTp, gSb, rNext, rSeq, rDrop, rRet, rRetN, rBrk, rCnt, rIfS, rSet, rPar, rFor, iSeq, iLst, iRg1, iRg2, iZp, iEn, iStrD, rLc, rYes, q_isi2, q_i2N, q_i2B, q_i2I, q_i2S, q_i2T, q_i2L, q_j2N, q_j2B, q_j2I, q_j2S, q_j2T, q_j2L, q_gt2, q_gtT, q_en, q_int2, q_strD, q_rev, q_ixo, q_ext2, q_extT, En.x, wipeD, start', List.getElem?_cons_zero, List.getElem?_cons_succ, List.set_cons_zero, List.set_cons_succ, List.map_cons, List.map_nil, List.length_cons, List.length_nil, List.cons_append, List.nil_append, List.replicate_succ, List.replicate_zero, id, q_asB, q_asI, q_add, q_addS, q_addT, q_addL, q_int, q_sub, q_mul, q_fdiv, q_mod, q_pow, q_neg, q_le, q_ge, q_gt, q_lt, q_ltT, q_isN, q_isB, q_isBi, q_isBs, q_isBn, q_isBt, q_isnt, n_non, n_bl, n_int, n_str, n_tup, n_ref, q_eq, q_eqS, q_eqB, q_ixT, q_ixK, q_ixL, q_ixS, q_slT, q_slL, q_slS, q_set, q_lenT, q_lenK, q_lenS, q_lenL, q_abs, q_intF, q_max, q_min, q_tupT, q_tupL, q_lstT, q_lstL, q_app, q_ext, q_joinL, q_stw, q_seq, q_lst, q_rng, q_rng2, q_zpT, q_zpL, q_truN, q_truB, q_truI, q_truT, q_truL, t_non, t_bl, t_int, t_str, t_tup, q_isiN, q_isiB, q_isiI, q_isiS, q_isiT, i_NoneType_int, i_NoneType_bool, i_NoneType_tuple, i_NoneType_list, i_NoneType_str, i_bool_int, i_bool_bool, i_bool_tuple, i_bool_list, i_bool_str, i_int_int, i_int_bool, i_int_tuple, i_int_list, i_int_str, i_str_int, i_str_bool, i_str_tuple, i_str_list, i_str_str, i_tuple_int, i_tuple_bool, i_tuple_tuple, i_tuple_list, i_tuple_str, i_list_int, i_list_bool, i_list_tuple, i_list_list, i_list_str, i_dict_int, i_dict_bool, i_dict_tuple, i_dict_list, i_dict_str, up_same, g_02, g_02', g_01, g_11, at_0, at_1, ix_0, ix_1, Option.some.injEq, HQ.lst.injEq, exists_eq_left', exists_eq_left, exists_and_left, exists_eq', exists_eq, decide_eq_true_eq, if_true, if_false, ite_true, ite_false, Bool.false_eq_true, reduceIte, reduceCtorEq, Bool.not_true, Bool.not_false, Nat.zero_add, Nat.reduceAdd, Nat.reduceSub, Nat.reduceLeDiff, Nat.reduceLT, Int.reduceLT, Int.reduceLE, Int.reduceEq, Int.reduceNe, Nat.reduceEqDiff, Int.reduceToNat, Int.reducePow, Int.reduceMul, Int.reduceAdd, Int.reduceSub, Int.reduceNeg, and_true, true_and, decide_true, decide_false]
    exact k none _ (fun _ h => nomatch h) n1
  simp only [c0, rVar, rC, rBin, rUn, rTst, rChn, rTru, rAnd, rOr, rNot, rAndV, rOrV, rNotV, rIf, rNil, rCons, rTup, rLst, rFn, rCall, rCallK, rSl, rPrt, rNoP, rMt, gNm, q_gN, q_gC, q_gTp, gSb, rNext, rSeq, rDrop, rRet, rRetN, rBrk, rCnt, rIfS, rSet, rPar, rFor, iSeq, iLst, iRg1, iRg2, iZp, iEn, iStrD, rLc, rYes, q_isi2, q_i2N, q_i2B, q_i2I, q_i2S, q_i2T, q_i2L, q_j2N, q_j2B, q_j2I, q_j2S, q_j2T, q_j2L, q_gt2, q_gtT, q_en, q_int2, q_strD, q_rev, q_ixo, q_ext2, q_extT, En.x, wipeD, start', List.getElem?_cons_zero, List.getElem?_cons_succ, List.set_cons_zero, List.set_cons_succ, List.map_cons, List.map_nil, List.length_cons, List.length_nil, List.cons_append, List.nil_append, List.replicate_succ, List.replicate_zero, id, q_asB, q_asI, q_add, q_addS, q_addT, q_addL, q_int, q_sub, q_mul, q_fdiv, q_mod, q_pow, q_neg, q_le, q_ge, q_gt, q_lt, q_ltT, q_isN, q_isB, q_isBi, q_isBs, q_isBn, q_isBt, q_isnt, n_non, n_bl, n_int, n_str, n_tup, n_ref, q_eq, q_eqS, q_eqB, q_ixT, q_ixK, q_ixL, q_ixS, q_slT, q_slL, q_slS, q_set, q_lenT, q_lenK, q_lenS, q_lenL, q_abs, q_intF, q_max, q_min, q_tupT, q_tupL, q_lstT, q_lstL, q_app, q_ext, q_joinL, q_stw, q_seq, q_lst, q_rng, q_rng2, q_zpT, q_zpL, q_truN, q_truB, q_truI, q_truT, q_truL, t_non, t_bl, t_int, t_str, t_tup, q_isiN, q_isiB, q_isiI, q_isiS, q_isiT, i_NoneType_int, i_NoneType_bool, i_NoneType_tuple, i_NoneType_list, i_NoneType_str, i_bool_int, i_bool_bool, i_bool_tuple, i_bool_list, i_bool_str, i_int_int, i_int_bool, i_int_tuple, i_int_list, i_int_str, i_str_int, i_str_bool, i_str_tuple, i_str_list, i_str_str, i_tuple_int, i_tuple_bool, i_tuple_tuple, i_tuple_list, i_tuple_str, i_list_int, i_list_bool, i_list_tuple, i_list_list, i_list_str, i_dict_int, i_dict_bool, i_dict_tuple, i_dict_list, i_dict_str, up_same, g_02, g_02', g_01, g_11, at_0, at_1, ix_0, ix_1, Option.some.injEq, HQ.lst.injEq, exists_eq_left', exists_eq_left, exists_and_left, exists_eq', exists_eq, decide_eq_true_eq, if_true, if_false, ite_true, ite_false, Bool.false_eq_true, reduceIte, reduceCtorEq, Bool.not_true, Bool.not_false, Nat.zero_add, Nat.reduceAdd, Nat.reduceSub, Nat.reduceLeDiff, Nat.reduceLT, Int.reduceLT, Int.reduceLE, Int.reduceEq, Int.reduceNe, Nat.reduceEqDiff, Int.reduceToNat, Int.reducePow, Int.reduceMul, Int.reduceAdd, Int.reduceSub, Int.reduceNeg, and_true, true_and, decide_true, decide_false]
  refine ⟨⟨by omega, by omega⟩, ?_⟩
  refine lc_draw (fun S' => Nx b S1 S') (fun d => ∃ i, d = .int i ∧ (-(2 ^ 59) < i ∧ i < 2 ^ 59)) (fun _ _ => trivial) _ _ _ (fun x _ S' Q' hi q => ?_) (by rw [rangeD_len]; simp; omega) (by simp) (Nx.refl n1.bx) (fun acc S2 hl ha n2 => ?_)
  · simp only [rVar, rC, rBin, rUn, rTst, rChn, rTru, rAnd, rOr, rNot, rAndV, rOrV, rNotV, rIf, rNil, rCons, rTup, rLst, rFn, rCall, rCallK, rSl, rPrt, rNoP, rMt, gNm, q_gN, q_gC, q_gTp, gSb, rNext, rSeq, rDrop, rRet, rRetN, rBrk, rCnt, rIfS, rSet, rPar, rFor, iSeq, iLst, iRg1, iRg2, iZp, iEn, iStrD, rLc, rYes, q_isi2, q_i2N, q_i2B, q_i2I, q_i2S, q_i2T, q_i2L, q_j2N, q_j2B, q_j2I, q_j2S, q_j2T, q_j2L, q_gt2, q_gtT, q_en, q_int2, q_strD, q_rev, q_ixo, q_ext2, q_extT, En.x, wipeD, start', List.getElem?_cons_zero, List.getElem?_cons_succ, List.set_cons_zero, List.set_cons_succ, List.map_cons, List.map_nil, List.length_cons, List.length_nil, List.cons_append, List.nil_append, List.replicate_succ, List.replicate_zero, id, q_asB, q_asI, q_add, q_addS, q_addT, q_addL, q_int, q_sub, q_mul, q_fdiv, q_mod, q_pow, q_neg, q_le, q_ge, q_gt, q_lt, q_ltT, q_isN, q_isB, q_isBi, q_isBs, q_isBn, q_isBt, q_isnt, n_non, n_bl, n_int, n_str, n_tup, n_ref, q_eq, q_eqS, q_eqB, q_ixT, q_ixK, q_ixL, q_ixS, q_slT, q_slL, q_slS, q_set, q_lenT, q_lenK, q_lenS, q_lenL, q_abs, q_intF, q_max, q_min, q_tupT, q_tupL, q_lstT, q_lstL, q_app, q_ext, q_joinL, q_stw, q_seq, q_lst, q_rng, q_rng2, q_zpT, q_zpL, q_truN, q_truB, q_truI, q_truT, q_truL, t_non, t_bl, t_int, t_str, t_tup, q_isiN, q_isiB, q_isiI, q_isiS, q_isiT, i_NoneType_int, i_NoneType_bool, i_NoneType_tuple, i_NoneType_list, i_NoneType_str, i_bool_int, i_bool_bool, i_bool_tuple, i_bool_list, i_bool_str, i_int_int, i_int_bool, i_int_tuple, i_int_list, i_int_str, i_str_int, i_str_bool, i_str_tuple, i_str_list, i_str_str, i_tuple_int, i_tuple_bool, i_tuple_tuple, i_tuple_list, i_tuple_str, i_list_int, i_list_bool, i_list_tuple, i_list_list, i_list_str, i_dict_int, i_dict_bool, i_dict_tuple, i_dict_list, i_dict_str, up_same, g_02, g_02', g_01, g_11, at_0, at_1, ix_0, ix_1, Option.some.injEq, HQ.lst.injEq, exists_eq_left', exists_eq_left, exists_and_left, exists_eq', exists_eq, decide_eq_true_eq, if_true, if_false, ite_true, ite_false, Bool.false_eq_true, reduceIte, reduceCtorEq, Bool.not_true, Bool.not_false, Nat.zero_add, Nat.reduceAdd, Nat.reduceSub, Nat.reduceLeDiff, Nat.reduceLT, Int.reduceLT, Int.reduceLE, Int.reduceEq, Int.reduceNe, Nat.reduceEqDiff, Int.reduceToNat, Int.reducePow, Int.reduceMul, Int.reduceAdd, Int.reduceSub, Int.reduceNeg, and_true, true_and, decide_true, decide_false]
    refine entry_of hi.bx fun i S'' i0 i1 n => q _ _ ⟨i, rfl, i0, i1⟩ (hi.trans n)
  · rw [rangeD_len] at hl
    obtain ⟨is, rfl, his⟩ := ints_ofP ha
    rw [List.length_map] at hl
    simp only [List.length_nil] at hl
    cases is with
    | nil => simp at hl; omega
    | cons i0 is =>
      intro c hc
      simp only [rVar, rC, rBin, rUn, rTst, rChn, rTru, rAnd, rOr, rNot, rAndV, rOrV, rNotV, rIf, rNil, rCons, rTup, rLst, rFn, rCall, rCallK, rSl, rPrt, rNoP, rMt, gNm, q_gN, q_gC, q_gTp, gSb, rNext, rSeq, rDrop, rRet, rRetN, rBrk, rCnt, rIfS, rSet, rPar, rFor, iSeq, iLst, iRg1, iRg2, iZp, iEn, iStrD, rLc, rYes, q_isi2, q_i2N, q_i2B, q_i2I, q_i2S, q_i2T, q_i2L, q_j2N, q_j2B, q_j2I, q_j2S, q_j2T, q_j2L, q_gt2, q_gtT, q_en, q_int2, q_strD, q_rev, q_ixo, q_ext2, q_extT, En.x, wipeD, start', List.getElem?_cons_zero, List.getElem?_cons_succ, List.set_cons_zero, List.set_cons_succ, List.map_cons, List.map_nil, List.length_cons, List.length_nil, List.cons_append, List.nil_append, List.replicate_succ, List.replicate_zero, id, q_asB, q_asI, q_add, q_addS, q_addT, q_addL, q_int, q_sub, q_mul, q_fdiv, q_mod, q_pow, q_neg, q_le, q_ge, q_gt, q_lt, q_ltT, q_isN, q_isB, q_isBi, q_isBs, q_isBn, q_isBt, q_isnt, n_non, n_bl, n_int, n_str, n_tup, n_ref, q_eq, q_eqS, q_eqB, q_ixT, q_ixK, q_ixL, q_ixS, q_slT, q_slL, q_slS, q_set, q_lenT, q_lenK, q_lenS, q_lenL, q_abs, q_intF, q_max, q_min, q_tupT, q_tupL, q_lstT, q_lstL, q_app, q_ext, q_joinL, q_stw, q_seq, q_lst, q_rng, q_rng2, q_zpT, q_zpL, q_truN, q_truB, q_truI, q_truT, q_truL, t_non, t_bl, t_int, t_str, t_tup, q_isiN, q_isiB, q_isiI, q_isiS, q_isiT, i_NoneType_int, i_NoneType_bool, i_NoneType_tuple, i_NoneType_list, i_NoneType_str, i_bool_int, i_bool_bool, i_bool_tuple, i_bool_list, i_bool_str, i_int_int, i_int_bool, i_int_tuple, i_int_list, i_int_str, i_str_int, i_str_bool, i_str_tuple, i_str_list, i_str_str, i_tuple_int, i_tuple_bool, i_tuple_tuple, i_tuple_list, i_tuple_str, i_list_int, i_list_bool, i_list_tuple, i_list_list, i_list_str, i_dict_int, i_dict_bool, i_dict_tuple, i_dict_list, i_dict_str, up_same, g_02, g_02', g_01, g_11, at_0, at_1, ix_0, ix_1, Option.some.injEq, HQ.lst.injEq, exists_eq_left', exists_eq_left, exists_and_left, exists_eq', exists_eq, decide_eq_true_eq, if_true, if_false, ite_true, ite_false, Bool.false_eq_true, reduceIte, reduceCtorEq, Bool.not_true, Bool.not_false, Nat.zero_add, Nat.reduceAdd, Nat.reduceSub, Nat.reduceLeDiff, Nat.reduceLT, Int.reduceLT, Int.reduceLE, Int.reduceEq, Int.reduceNe, Nat.reduceEqDiff, Int.reduceToNat, Int.reducePow, Int.reduceMul, Int.reduceAdd, Int.reduceSub, Int.reduceNeg, and_true, true_and, decide_true, decide_false, up_same]
      have hcb : c ≠ b := n2.bx.ne hc
      rw [up_up]
      have hc0 : up S2 c (.lst (D.int (if i0 < 0 then -i0 else i0) :: List.map D.int is)) c = some (.lst (D.int (if i0 < 0 then -i0 else i0) :: List.map D.int is)) := up_same
      have hb0 : Nx b S2 (up S2 c (.lst (D.int (if i0 < 0 then -i0 else i0) :: List.map D.int is))) := Nx.new n2.bx hc
      refine take_of hb0.bx (by decide) (by decide) fun r1 S3 h1 h1' n3 => ?_
      refine take_of n3.bx (by decide) (by decide) fun r2 S4 h2 h2' n4 => ?_
      intro q hq
      refine pick_of n4.bx hq (by simp) (by simp) fun d S5 hd5 n5 => ?_
      obtain ⟨l, hl5, rfl⟩ := mem_ints (l := [_, _, _, _]) hd5
      have hlast : 0 ≤ l ∧ l < 32 := by
        simp only [List.mem_cons, List.not_mem_nil, or_false] at hl5
        rcases hl5 with rfl | rfl | rfl | rfl <;> omega
      have hc5 : S5 c = some (.lst (D.int (if i0 < 0 then -i0 else i0) :: List.map D.int is)) := by (repeat (first | assumption | exact up_same | refine up_get (by assumption) ?_ | refine Nx.get (by assumption) (by assumption) ?_))
      intro u hu
      refine ⟨_, by (repeat (first | assumption | exact up_same | refine up_get (by assumption) ?_ | refine Nx.get (by assumption) (by assumption) ?_)), by simp at hl ⊢; omega, fun v hv => ?_⟩
      have e : ((D.int (if i0 < 0 then -i0 else i0) :: List.map D.int is) ++ [D.int l]) = List.map D.int ((if i0 < 0 then -i0 else i0) :: (is ++ [l])) := by simp
      have b0 := his i0 List.mem_cons_self
      have k2 := k (some ((if i0 < 0 then -i0 else i0) :: (is ++ [l]))) (up (up S5 u (.lst [.int l])) v (.lst ((D.int (if i0 < 0 then -i0 else i0) :: List.map D.int is) ++ [D.int l]))) (fun ns h => by
          cases h
          refine ⟨_, _, rfl, by split <;> omega, by split <;> omega, by simp at hl ⊢; omega, fun e he => ?_⟩
          rcases List.mem_append.mp he with he | he
          · have := his e (List.mem_cons_of_mem _ he); omega
          · rw [List.mem_singleton] at he; subst he; omega)
        ((((((n1.trans n2).trans hb0).trans n3).trans n4).trans n5).trans ((Nx.new n5.bx hu).trans (Nx.new (n5.bx.up hu) hv)))
      simp only [ofO] at k2
      rw [← e] at k2
      exact k2

def sp_law_letter : Sq := fun ds S Q _ => ∃ b, ds = [.ref b] ∧ Bx S b ∧ ∀ l S', LtOk l → Nx b S S' → Q (letD l) S'
theorem ln_law_letter : ∀ ds S Q E, sp_law_letter ds S Q E → ds.length = 1 := by rintro _ _ _ _ ⟨b, rfl, _⟩; rfl
theorem nx_law_letter : ∀ ds S Q E, sp_law_letter ds S Q E → sp_law_letter ds S Q NoX := fun _ _ _ _ h => h
theorem letter_of {b : Addr} {S : Hq} {Q : Qv} (hb : Bx S b) (q : ∀ l S', LtOk l → Nx b S S' → Q (letD l) S') : sp_law_letter [.ref b] S Q NoX := ⟨b, rfl, hb, q⟩

def rd_law_letter : RSt :=
 (rSeq (rSet (rCall sp_law_take (rCons (rVar 0) (rCons (rC (.int 3)) rNil))) (gNm 1))
 (rSeq (rSet (rCall sp_law_pick (rCons (rVar 0) (rCons (rLst (rCons (rC (.int 1)) (rCons (rC (.int 2)) (rCons (rC (.int 127)) (rCons (rC (.int 128)) (rCons (rC (.int 16383)) (rCons (rC (.int 16384)) (rCons (rC (.int 2097151)) (rCons (rC (.int 2097152)) (rCons (rBin powD (rC (.int 10)) (rC (.int 12))) (rCons (rBin addD (rC (.int 1)) (rCall sp_law_take (rCons (rVar 0) (rCons (rC (.int 300)) rNil)))) (rCons (rBin addD (rC (.int 1)) (rCall sp_law_take (rCons (rVar 0) (rCons (rBin powD (rC (.int 10)) (rC (.int 12))) rNil)))) rNil)))))))))))) rNil))) (gNm 2))
 (rSeq (rSet (rCall sp_law_signs (rCons (rVar 0) (rCons (rCall sp_law_pick (rCons (rVar 0) (rCons (rLst (rCons (rC (.int 0)) (rCons (rC (.int 1)) (rCons (rC (.int 2)) (rCons (rC (.int 3)) (rCons (rC (.int 4)) (rCons (rC (.int 5)) (rCons (rC (.int 6)) (rCons (rC (.int 6)) rNil))))))))) rNil))) rNil))) (gNm 3))
 (rSeq (rIfS (rTst (rBin (eqD id) (rVar 1) (rC (.int 0))))
 (rRet (rTup (rCons (rC (.str (Str.ofString "report"))) (rCons (rVar 3) (rCons (rVar 2) (rCons (rCall sp_law_figure (rCons (rVar 0) rNil)) rNil))))))
 rNext)
 (rSeq (rIfS (rTst (rBin (eqD id) (rVar 1) (rC (.int 1))))
 (rRet (rTup (rCons (rC (.str (Str.ofString "ack"))) (rCons (rVar 3) (rCons (rVar 2) rNil)))))
 rNext)
 (rSeq (rSet (rCall sp_law_pick (rCons (rVar 0) (rCons (rLst (rCons (rC (.int 0)) (rCons (rC (.int 1)) (rCons (rC (.int 2)) (rCons (rC (.int 3)) (rCons (rC (.int 5)) (rCons (rC (.int 40)) (rCons (rC (.int 39)) rNil)))))))) rNil))) (gNm 4))
 (rRet (rTup (rCons (rC (.str (Str.ofString "mail"))) (rCons (rCall sp_law_signs (rCons (rVar 0) (rCons (rC (.int 6)) rNil))) (rCons (rFn tupF (rCons (rLc (iRg1 (rCons (rVar 4) rNil)) (gNm 5) rYes (rCall sp_law_pick (rCons (rVar 0) (rCons (rLst (rCons (rC (.int 0)) (rCons (rC (.int 255)) (rCons (rC (.int 128)) (rCons (rCall sp_law_take (rCons (rVar 0) (rCons (rC (.int 256)) rNil))) rNil))))) rNil))) [5]) rNil)) rNil)))))))))))

theorem pu_law_letter : ∀ ds S Q, sp_law_letter ds S Q NoX → rd_law_letter { nx := fun _ S => Q .non S, rt := Q } (start' 6 ds) S := by

  rintro _ S Q ⟨b, rfl, hb, k⟩
  unfold rd_law_letter
  show rSeq _ _ _ _ _
  unfold rSeq
  simp only [rVar, rC, rBin, rUn, rTst, rChn, rTru, rAnd, rOr, rNot, rAndV, rOrV, rNotV, rIf, rNil, rCons, rTup, rLst, rFn, rCall, rCallK, rSl, rPrt, rNoP, rMt, gNm, q_gN, q_gC, q_gTp, gSb, rNext, rSeq, rDrop, rRet, rRetN, rBrk, rCnt, rIfS, rSet, rPar, rFor, iSeq, iLst, iRg1, iRg2, iZp, iEn, iStrD, rLc, rYes, q_isi2, q_i2N, q_i2B, q_i2I, q_i2S, q_i2T, q_i2L, q_j2N, q_j2B, q_j2I, q_j2S, q_j2T, q_j2L, q_gt2, q_gtT, q_en, q_int2, q_strD, q_rev, q_ixo, q_ext2, q_extT, En.x, wipeD, start', List.getElem?_cons_zero, List.getElem?_cons_succ, List.set_cons_zero, List.set_cons_succ, List.map_cons, List.map_nil, List.length_cons, List.length_nil, List.cons_append, List.nil_append, List.replicate_succ, List.replicate_zero, id, q_asB, q_asI, q_add, q_addS, q_addT, q_addL, q_int, q_sub, q_mul, q_fdiv, q_mod, q_pow, q_neg, q_le, q_ge, q_gt, q_lt, q_ltT, q_isN, q_isB, q_isBi, q_isBs, q_isBn, q_isBt, q_isnt, n_non, n_bl, n_int, n_str, n_tup, n_ref, q_eq, q_eqS, q_eqB, q_ixT, q_ixK, q_ixL, q_ixS, q_slT, q_slL, q_slS, q_set, q_lenT, q_lenK, q_lenS, q_lenL, q_abs, q_intF, q_max, q_min, q_tupT, q_tupL, q_lstT, q_lstL, q_app, q_ext, q_joinL, q_stw, q_seq, q_lst, q_rng, q_rng2, q_zpT, q_zpL, q_truN, q_truB, q_truI, q_truT, q_truL, t_non, t_bl, t_int, t_str, t_tup, q_isiN, q_isiB, q_isiI, q_isiS, q_isiT, i_NoneType_int, i_NoneType_bool, i_NoneType_tuple, i_NoneType_list, i_NoneType_str, i_bool_int, i_bool_bool, i_bool_tuple, i_bool_list, i_bool_str, i_int_int, i_int_bool, i_int_tuple, i_int_list, i_int_str, i_str_int, i_str_bool, i_str_tuple, i_str_list, i_str_str, i_tuple_int, i_tuple_bool, i_tuple_tuple, i_tuple_list, i_tuple_str, i_list_int, i_list_bool, i_list_tuple, i_list_list, i_list_str, i_dict_int, i_dict_bool, i_dict_tuple, i_dict_list, i_dict_str, up_same, g_02, g_02', g_01, g_11, at_0, at_1, ix_0, ix_1, Option.some.injEq, HQ.lst.injEq, exists_eq_left', exists_eq_left, exists_and_left, exists_eq', exists_eq, decide_eq_true_eq, if_true, if_false, ite_true, ite_false, Bool.false_eq_true, reduceIte, reduceCtorEq, Bool.not_true, Bool.not_false, Nat.zero_add, Nat.reduceAdd, Nat.reduceSub, Nat.reduceLeDiff, Nat.reduceLT, Int.reduceLT, Int.reduceLE, Int.reduceEq, Int.reduceNe, Nat.reduceEqDiff, Int.reduceToNat, Int.reducePow, Int.reduceMul, Int.reduceAdd, Int.reduceSub, Int.reduceNeg, and_true, true_and, decide_true, decide_false]
  refine take_of hb (by decide) (by decide) fun kind S1 hk0 hk1 n1 => ?_
  (repeat refine And.intro ⟨by decide, by decide, by decide, by decide⟩ ?_)
  refine take_of n1.bx (by decide) (by decide) fun r1 S2 h1 h1' n2 => ?_
  (repeat refine And.intro ⟨by decide, by decide, by decide, by decide⟩ ?_)
  refine take_of n2.bx (by decide) (by decide) fun r2 S3 h2 h2' n3 => ?_
  intro p hp
  refine pick_of n3.bx hp (by simp) (by simp) fun d S4 hd n4 => ?_
  obtain ⟨s, hs, rfl⟩ := mem_ints (l := [_, _, _, _, _, _, _, _, _, _, _]) hd
  have hs' : 0 ≤ s ∧ s < 2 ^ 62 := by
    simp only [List.mem_cons, List.not_mem_nil, or_false] at hs
    rcases hs with rfl | rfl | rfl | rfl | rfl | rfl | rfl | rfl | rfl | rfl | rfl <;> omega
  try simp only [rVar, rC, rBin, rUn, rTst, rChn, rTru, rAnd, rOr, rNot, rAndV, rOrV, rNotV, rIf, rNil, rCons, rTup, rLst, rFn, rCall, rCallK, rSl, rPrt, rNoP, rMt, gNm, q_gN, q_gC, q_gTp, gSb, rNext, rSeq, rDrop, rRet, rRetN, rBrk, rCnt, rIfS, rSet, rPar, rFor, iSeq, iLst, iRg1, iRg2, iZp, iEn, iStrD, rLc, rYes, q_isi2, q_i2N, q_i2B, q_i2I, q_i2S, q_i2T, q_i2L, q_j2N, q_j2B, q_j2I, q_j2S, q_j2T, q_j2L, q_gt2, q_gtT, q_en, q_int2, q_strD, q_rev, q_ixo, q_ext2, q_extT, En.x, wipeD, start', List.getElem?_cons_zero, List.getElem?_cons_succ, List.set_cons_zero, List.set_cons_succ, List.map_cons, List.map_nil, List.length_cons, List.length_nil, List.cons_append, List.nil_append, List.replicate_succ, List.replicate_zero, id, q_asB, q_asI, q_add, q_addS, q_addT, q_addL, q_int, q_sub, q_mul, q_fdiv, q_mod, q_pow, q_neg, q_le, q_ge, q_gt, q_lt, q_ltT, q_isN, q_isB, q_isBi, q_isBs, q_isBn, q_isBt, q_isnt, n_non, n_bl, n_int, n_str, n_tup, n_ref, q_eq, q_eqS, q_eqB, q_ixT, q_ixK, q_ixL, q_ixS, q_slT, q_slL, q_slS, q_set, q_lenT, q_lenK, q_lenS, q_lenL, q_abs, q_intF, q_max, q_min, q_tupT, q_tupL, q_lstT, q_lstL, q_app, q_ext, q_joinL, q_stw, q_seq, q_lst, q_rng, q_rng2, q_zpT, q_zpL, q_truN, q_truB, q_truI, q_truT, q_truL, t_non, t_bl, t_int, t_str, t_tup, q_isiN, q_isiB, q_isiI, q_isiS, q_isiT, i_NoneType_int, i_NoneType_bool, i_NoneType_tuple, i_NoneType_list, i_NoneType_str, i_bool_int, i_bool_bool, i_bool_tuple, i_bool_list, i_bool_str, i_int_int, i_int_bool, i_int_tuple, i_int_list, i_int_str, i_str_int, i_str_bool, i_str_tuple, i_str_list, i_str_str, i_tuple_int, i_tuple_bool, i_tuple_tuple, i_tuple_list, i_tuple_str, i_list_int, i_list_bool, i_list_tuple, i_list_list, i_list_str, i_dict_int, i_dict_bool, i_dict_tuple, i_dict_list, i_dict_str, up_same, g_02, g_02', g_01, g_11, at_0, at_1, ix_0, ix_1, Option.some.injEq, HQ.lst.injEq, exists_eq_left', exists_eq_left, exists_and_left, exists_eq', exists_eq, decide_eq_true_eq, if_true, if_false, ite_true, ite_false, Bool.false_eq_true, reduceIte, reduceCtorEq, Bool.not_true, Bool.not_false, Nat.zero_add, Nat.reduceAdd, Nat.reduceSub, Nat.reduceLeDiff, Nat.reduceLT, Int.reduceLT, Int.reduceLE, Int.reduceEq, Int.reduceNe, Nat.reduceEqDiff, Int.reduceToNat, Int.reducePow, Int.reduceMul, Int.reduceAdd, Int.reduceSub, Int.reduceNeg, and_true, true_and, decide_true, decide_false]
  intro p2 hp2
  refine pick_of n4.bx hp2 (by simp) (by simp) fun d S5 hd n5 => ?_
  obtain ⟨m, hm, rfl⟩ := mem_ints (l := [_, _, _, _, _, _, _, _]) hd
  have hm' : 0 ≤ m ∧ m ≤ 6 := by
    have : ∀ i ∈ ([0, 1, 2, 3, 4, 5, 6, 6] : List Int), 0 ≤ i ∧ i ≤ 6 := by decide
    exact this m hm
  try simp only [rVar, rC, rBin, rUn, rTst, rChn, rTru, rAnd, rOr, rNot, rAndV, rOrV, rNotV, rIf, rNil, rCons, rTup, rLst, rFn, rCall, rCallK, rSl, rPrt, rNoP, rMt, gNm, q_gN, q_gC, q_gTp, gSb, rNext, rSeq, rDrop, rRet, rRetN, rBrk, rCnt, rIfS, rSet, rPar, rFor, iSeq, iLst, iRg1, iRg2, iZp, iEn, iStrD, rLc, rYes, q_isi2, q_i2N, q_i2B, q_i2I, q_i2S, q_i2T, q_i2L, q_j2N, q_j2B, q_j2I, q_j2S, q_j2T, q_j2L, q_gt2, q_gtT, q_en, q_int2, q_strD, q_rev, q_ixo, q_ext2, q_extT, En.x, wipeD, start', List.getElem?_cons_zero, List.getElem?_cons_succ, List.set_cons_zero, List.set_cons_succ, List.map_cons, List.map_nil, List.length_cons, List.length_nil, List.cons_append, List.nil_append, List.replicate_succ, List.replicate_zero, id, q_asB, q_asI, q_add, q_addS, q_addT, q_addL, q_int, q_sub, q_mul, q_fdiv, q_mod, q_pow, q_neg, q_le, q_ge, q_gt, q_lt, q_ltT, q_isN, q_isB, q_isBi, q_isBs, q_isBn, q_isBt, q_isnt, n_non, n_bl, n_int, n_str, n_tup, n_ref, q_eq, q_eqS, q_eqB, q_ixT, q_ixK, q_ixL, q_ixS, q_slT, q_slL, q_slS, q_set, q_lenT, q_lenK, q_lenS, q_lenL, q_abs, q_intF, q_max, q_min, q_tupT, q_tupL, q_lstT, q_lstL, q_app, q_ext, q_joinL, q_stw, q_seq, q_lst, q_rng, q_rng2, q_zpT, q_zpL, q_truN, q_truB, q_truI, q_truT, q_truL, t_non, t_bl, t_int, t_str, t_tup, q_isiN, q_isiB, q_isiI, q_isiS, q_isiT, i_NoneType_int, i_NoneType_bool, i_NoneType_tuple, i_NoneType_list, i_NoneType_str, i_bool_int, i_bool_bool, i_bool_tuple, i_bool_list, i_bool_str, i_int_int, i_int_bool, i_int_tuple, i_int_list, i_int_str, i_str_int, i_str_bool, i_str_tuple, i_str_list, i_str_str, i_tuple_int, i_tuple_bool, i_tuple_tuple, i_tuple_list, i_tuple_str, i_list_int, i_list_bool, i_list_tuple, i_list_list, i_list_str, i_dict_int, i_dict_bool, i_dict_tuple, i_dict_list, i_dict_str, up_same, g_02, g_02', g_01, g_11, at_0, at_1, ix_0, ix_1, Option.some.injEq, HQ.lst.injEq, exists_eq_left', exists_eq_left, exists_and_left, exists_eq', exists_eq, decide_eq_true_eq, if_true, if_false, ite_true, ite_false, Bool.false_eq_true, reduceIte, reduceCtorEq, Bool.not_true, Bool.not_false, Nat.zero_add, Nat.reduceAdd, Nat.reduceSub, Nat.reduceLeDiff, Nat.reduceLT, Int.reduceLT, Int.reduceLE, Int.reduceEq, Int.reduceNe, Nat.reduceEqDiff, Int.reduceToNat, Int.reducePow, Int.reduceMul, Int.reduceAdd, Int.reduceSub, Int.reduceNeg, and_true, true_and, decide_true, decide_false]
  refine signs_of n5.bx hm'.1 (by omega) fun z S6 hz n6 => ?_
  have n := ((((n1.trans n2).trans n3).trans n4).trans n5).trans n6
  try simp only [rVar, rC, rBin, rUn, rTst, rChn, rTru, rAnd, rOr, rNot, rAndV, rOrV, rNotV, rIf, rNil, rCons, rTup, rLst, rFn, rCall, rCallK, rSl, rPrt, rNoP, rMt, gNm, q_gN, q_gC, q_gTp, gSb, rNext, rSeq, rDrop, rRet, rRetN, rBrk, rCnt, rIfS, rSet, rPar, rFor, iSeq, iLst, iRg1, iRg2, iZp, iEn, iStrD, rLc, rYes, q_isi2, q_i2N, q_i2B, q_i2I, q_i2S, q_i2T, q_i2L, q_j2N, q_j2B, q_j2I, q_j2S, q_j2T, q_j2L, q_gt2, q_gtT, q_en, q_int2, q_strD, q_rev, q_ixo, q_ext2, q_extT, En.x, wipeD, start', List.getElem?_cons_zero, List.getElem?_cons_succ, List.set_cons_zero, List.set_cons_succ, List.map_cons, List.map_nil, List.length_cons, List.length_nil, List.cons_append, List.nil_append, List.replicate_succ, List.replicate_zero, id, q_asB, q_asI, q_add, q_addS, q_addT, q_addL, q_int, q_sub, q_mul, q_fdiv, q_mod, q_pow, q_neg, q_le, q_ge, q_gt, q_lt, q_ltT, q_isN, q_isB, q_isBi, q_isBs, q_isBn, q_isBt, q_isnt, n_non, n_bl, n_int, n_str, n_tup, n_ref, q_eq, q_eqS, q_eqB, q_ixT, q_ixK, q_ixL, q_ixS, q_slT, q_slL, q_slS, q_set, q_lenT, q_lenK, q_lenS, q_lenL, q_abs, q_intF, q_max, q_min, q_tupT, q_tupL, q_lstT, q_lstL, q_app, q_ext, q_joinL, q_stw, q_seq, q_lst, q_rng, q_rng2, q_zpT, q_zpL, q_truN, q_truB, q_truI, q_truT, q_truL, t_non, t_bl, t_int, t_str, t_tup, q_isiN, q_isiB, q_isiI, q_isiS, q_isiT, i_NoneType_int, i_NoneType_bool, i_NoneType_tuple, i_NoneType_list, i_NoneType_str, i_bool_int, i_bool_bool, i_bool_tuple, i_bool_list, i_bool_str, i_int_int, i_int_bool, i_int_tuple, i_int_list, i_int_str, i_str_int, i_str_bool, i_str_tuple, i_str_list, i_str_str, i_tuple_int, i_tuple_bool, i_tuple_tuple, i_tuple_list, i_tuple_str, i_list_int, i_list_bool, i_list_tuple, i_list_list, i_list_str, i_dict_int, i_dict_bool, i_dict_tuple, i_dict_list, i_dict_str, up_same, g_02, g_02', g_01, g_11, at_0, at_1, ix_0, ix_1, Option.some.injEq, HQ.lst.injEq, exists_eq_left', exists_eq_left, exists_and_left, exists_eq', exists_eq, decide_eq_true_eq, if_true, if_false, ite_true, ite_false, Bool.false_eq_true, reduceIte, reduceCtorEq, Bool.not_true, Bool.not_false, Nat.zero_add, Nat.reduceAdd, Nat.reduceSub, Nat.reduceLeDiff, Nat.reduceLT, Int.reduceLT, Int.reduceLE, Int.reduceEq, Int.reduceNe, Nat.reduceEqDiff, Int.reduceToNat, Int.reducePow, Int.reduceMul, Int.reduceAdd, Int.reduceSub, Int.reduceNeg, and_true, true_and, decide_true, decide_false]
  by_cases c0 : kind = 0
  · simp only [c0, rVar, rC, rBin, rUn, rTst, rChn, rTru, rAnd, rOr, rNot, rAndV, rOrV, rNotV, rIf, rNil, rCons, rTup, rLst, rFn, rCall, rCallK, rSl, rPrt, rNoP, rMt, gNm, q_gN, q_gC, q_gTp, gSb, rNext, rSeq, rDrop, rRet, rRetN, rBrk, rCnt, rIfS, rSet, rPar, rFor, iSeq, iLst, iRg1, iRg2, iZp, iEn, iStrD, rLc, rYes, q_isi2, q_i2N, q_i2B, q_i2I, q_i2S, q_i2T, q_i2L, q_j2N, q_j2B, q_j2I, q_j2S, q_j2T, q_j2L, q_gt2, q_gtT, q_en, q_int2, q_strD, q_rev, q_ixo, q_ext2, q_extT, En.x, wipeD, start', List.getElem?_cons_zero, List.getElem?_cons_succ, List.set_cons_zero, List.set_cons_succ, List.map_cons, List.map_nil, List.length_cons, List.length_nil, List.cons_append, List.nil_append, List.replicate_succ, List.replicate_zero, id, q_asB, q_asI, q_add, q_addS, q_addT, q_addL, q_int, q_sub, q_mul, q_fdiv, q_mod, q_pow, q_neg, q_le, q_ge, q_gt, q_lt, q_ltT, q_isN, q_isB, q_isBi, q_isBs, q_isBn, q_isBt, q_isnt, n_non, n_bl, n_int, n_str, n_tup, n_ref, q_eq, q_eqS, q_eqB, q_ixT, q_ixK, q_ixL, q_ixS, q_slT, q_slL, q_slS, q_set, q_lenT, q_lenK, q_lenS, q_lenL, q_abs, q_intF, q_max, q_min, q_tupT, q_tupL, q_lstT, q_lstL, q_app, q_ext, q_joinL, q_stw, q_seq, q_lst, q_rng, q_rng2, q_zpT, q_zpL, q_truN, q_truB, q_truI, q_truT, q_truL, t_non, t_bl, t_int, t_str, t_tup, q_isiN, q_isiB, q_isiI, q_isiS, q_isiT, i_NoneType_int, i_NoneType_bool, i_NoneType_tuple, i_NoneType_list, i_NoneType_str, i_bool_int, i_bool_bool, i_bool_tuple, i_bool_list, i_bool_str, i_int_int, i_int_bool, i_int_tuple, i_int_list, i_int_str, i_str_int, i_str_bool, i_str_tuple, i_str_list, i_str_str, i_tuple_int, i_tuple_bool, i_tuple_tuple, i_tuple_list, i_tuple_str, i_list_int, i_list_bool, i_list_tuple, i_list_list, i_list_str, i_dict_int, i_dict_bool, i_dict_tuple, i_dict_list, i_dict_str, up_same, g_02, g_02', g_01, g_11, at_0, at_1, ix_0, ix_1, Option.some.injEq, HQ.lst.injEq, exists_eq_left', exists_eq_left, exists_and_left, exists_eq', exists_eq, decide_eq_true_eq, if_true, if_false, ite_true, ite_false, Bool.false_eq_true, reduceIte, reduceCtorEq, Bool.not_true, Bool.not_false, Nat.zero_add, Nat.reduceAdd, Nat.reduceSub, Nat.reduceLeDiff, Nat.reduceLT, Int.reduceLT, Int.reduceLE, Int.reduceEq, Int.reduceNe, Nat.reduceEqDiff, Int.reduceToNat, Int.reducePow, Int.reduceMul, Int.reduceAdd, Int.reduceSub, Int.reduceNeg, and_true, true_and, decide_true, decide_false]
    refine figure_of n6.bx fun o S7 ho n7 => ?_
    exact k (.rep z s o) _ ⟨hz, hs'.1, hs'.2, ho⟩ (n.trans n7)
  by_cases c1 : kind = 1
  · simp only [c1, rVar, rC, rBin, rUn, rTst, rChn, rTru, rAnd, rOr, rNot, rAndV, rOrV, rNotV, rIf, rNil, rCons, rTup, rLst, rFn, rCall, rCallK, rSl, rPrt, rNoP, rMt, gNm, q_gN, q_gC, q_gTp, gSb, rNext, rSeq, rDrop, rRet, rRetN, rBrk, rCnt, rIfS, rSet, rPar, rFor, iSeq, iLst, iRg1, iRg2, iZp, iEn, iStrD, rLc, rYes, q_isi2, q_i2N, q_i2B, q_i2I, q_i2S, q_i2T, q_i2L, q_j2N, q_j2B, q_j2I, q_j2S, q_j2T, q_j2L, q_gt2, q_gtT, q_en, q_int2, q_strD, q_rev, q_ixo, q_ext2, q_extT, En.x, wipeD, start', List.getElem?_cons_zero, List.getElem?_cons_succ, List.set_cons_zero, List.set_cons_succ, List.map_cons, List.map_nil, List.length_cons, List.length_nil, List.cons_append, List.nil_append, List.replicate_succ, List.replicate_zero, id, q_asB, q_asI, q_add, q_addS, q_addT, q_addL, q_int, q_sub, q_mul, q_fdiv, q_mod, q_pow, q_neg, q_le, q_ge, q_gt, q_lt, q_ltT, q_isN, q_isB, q_isBi, q_isBs, q_isBn, q_isBt, q_isnt, n_non, n_bl, n_int, n_str, n_tup, n_ref, q_eq, q_eqS, q_eqB, q_ixT, q_ixK, q_ixL, q_ixS, q_slT, q_slL, q_slS, q_set, q_lenT, q_lenK, q_lenS, q_lenL, q_abs, q_intF, q_max, q_min, q_tupT, q_tupL, q_lstT, q_lstL, q_app, q_ext, q_joinL, q_stw, q_seq, q_lst, q_rng, q_rng2, q_zpT, q_zpL, q_truN, q_truB, q_truI, q_truT, q_truL, t_non, t_bl, t_int, t_str, t_tup, q_isiN, q_isiB, q_isiI, q_isiS, q_isiT, i_NoneType_int, i_NoneType_bool, i_NoneType_tuple, i_NoneType_list, i_NoneType_str, i_bool_int, i_bool_bool, i_bool_tuple, i_bool_list, i_bool_str, i_int_int, i_int_bool, i_int_tuple, i_int_list, i_int_str, i_str_int, i_str_bool, i_str_tuple, i_str_list, i_str_str, i_tuple_int, i_tuple_bool, i_tuple_tuple, i_tuple_list, i_tuple_str, i_list_int, i_list_bool, i_list_tuple, i_list_list, i_list_str, i_dict_int, i_dict_bool, i_dict_tuple, i_dict_list, i_dict_str, up_same, g_02, g_02', g_01, g_11, at_0, at_1, ix_0, ix_1, Option.some.injEq, HQ.lst.injEq, exists_eq_left', exists_eq_left, exists_and_left, exists_eq', exists_eq, decide_eq_true_eq, if_true, if_false, ite_true, ite_false, Bool.false_eq_true, reduceIte, reduceCtorEq, Bool.not_true, Bool.not_false, Nat.zero_add, Nat.reduceAdd, Nat.reduceSub, Nat.reduceLeDiff, Nat.reduceLT, Int.reduceLT, Int.reduceLE, Int.reduceEq, Int.reduceNe, Nat.reduceEqDiff, Int.reduceToNat, Int.reducePow, Int.reduceMul, Int.reduceAdd, Int.reduceSub, Int.reduceNeg, and_true, true_and, decide_true, decide_false]
    exact k (.ack z s) _ ⟨hz, hs'.1, hs'.2⟩ n
  simp only [c0, c1, rVar, rC, rBin, rUn, rTst, rChn, rTru, rAnd, rOr, rNot, rAndV, rOrV, rNotV, rIf, rNil, rCons, rTup, rLst, rFn, rCall, rCallK, rSl, rPrt, rNoP, rMt, gNm, q_gN, q_gC, q_gTp, gSb, rNext, rSeq, rDrop, rRet, rRetN, rBrk, rCnt, rIfS, rSet, rPar, rFor, iSeq, iLst, iRg1, iRg2, iZp, iEn, iStrD, rLc, rYes, q_isi2, q_i2N, q_i2B, q_i2I, q_i2S, q_i2T, q_i2L, q_j2N, q_j2B, q_j2I, q_j2S, q_j2T, q_j2L, q_gt2, q_gtT, q_en, q_int2, q_strD, q_rev, q_ixo, q_ext2, q_extT, En.x, wipeD, start', List.getElem?_cons_zero, List.getElem?_cons_succ, List.set_cons_zero, List.set_cons_succ, List.map_cons, List.map_nil, List.length_cons, List.length_nil, List.cons_append, List.nil_append, List.replicate_succ, List.replicate_zero, id, q_asB, q_asI, q_add, q_addS, q_addT, q_addL, q_int, q_sub, q_mul, q_fdiv, q_mod, q_pow, q_neg, q_le, q_ge, q_gt, q_lt, q_ltT, q_isN, q_isB, q_isBi, q_isBs, q_isBn, q_isBt, q_isnt, n_non, n_bl, n_int, n_str, n_tup, n_ref, q_eq, q_eqS, q_eqB, q_ixT, q_ixK, q_ixL, q_ixS, q_slT, q_slL, q_slS, q_set, q_lenT, q_lenK, q_lenS, q_lenL, q_abs, q_intF, q_max, q_min, q_tupT, q_tupL, q_lstT, q_lstL, q_app, q_ext, q_joinL, q_stw, q_seq, q_lst, q_rng, q_rng2, q_zpT, q_zpL, q_truN, q_truB, q_truI, q_truT, q_truL, t_non, t_bl, t_int, t_str, t_tup, q_isiN, q_isiB, q_isiI, q_isiS, q_isiT, i_NoneType_int, i_NoneType_bool, i_NoneType_tuple, i_NoneType_list, i_NoneType_str, i_bool_int, i_bool_bool, i_bool_tuple, i_bool_list, i_bool_str, i_int_int, i_int_bool, i_int_tuple, i_int_list, i_int_str, i_str_int, i_str_bool, i_str_tuple, i_str_list, i_str_str, i_tuple_int, i_tuple_bool, i_tuple_tuple, i_tuple_list, i_tuple_str, i_list_int, i_list_bool, i_list_tuple, i_list_list, i_list_str, i_dict_int, i_dict_bool, i_dict_tuple, i_dict_list, i_dict_str, up_same, g_02, g_02', g_01, g_11, at_0, at_1, ix_0, ix_1, Option.some.injEq, HQ.lst.injEq, exists_eq_left', exists_eq_left, exists_and_left, exists_eq', exists_eq, decide_eq_true_eq, if_true, if_false, ite_true, ite_false, Bool.false_eq_true, reduceIte, reduceCtorEq, Bool.not_true, Bool.not_false, Nat.zero_add, Nat.reduceAdd, Nat.reduceSub, Nat.reduceLeDiff, Nat.reduceLT, Int.reduceLT, Int.reduceLE, Int.reduceEq, Int.reduceNe, Nat.reduceEqDiff, Int.reduceToNat, Int.reducePow, Int.reduceMul, Int.reduceAdd, Int.reduceSub, Int.reduceNeg, and_true, true_and, decide_true, decide_false]
  intro p3 hp3
  refine pick_of n6.bx hp3 (by simp) (by simp) fun d S7 hd n7 => ?_
  obtain ⟨m2, hm2, rfl⟩ := mem_ints (l := [_, _, _, _, _, _, _]) hd
  have hm2' : 0 ≤ m2 ∧ m2 ≤ 40 := by
    have : ∀ i ∈ ([0, 1, 2, 3, 5, 40, 39] : List Int), 0 ≤ i ∧ i ≤ 40 := by decide
    exact this m2 hm2
  try simp only [rVar, rC, rBin, rUn, rTst, rChn, rTru, rAnd, rOr, rNot, rAndV, rOrV, rNotV, rIf, rNil, rCons, rTup, rLst, rFn, rCall, rCallK, rSl, rPrt, rNoP, rMt, gNm, q_gN, q_gC, q_gTp, gSb, rNext, rSeq, rDrop, rRet, rRetN, rBrk, rCnt, rIfS, rSet, rPar, rFor, iSeq, iLst, iRg1, iRg2, iZp, iEn, iStrD, rLc, rYes, q_isi2, q_i2N, q_i2B, q_i2I, q_i2S, q_i2T, q_i2L, q_j2N, q_j2B, q_j2I, q_j2S, q_j2T, q_j2L, q_gt2, q_gtT, q_en, q_int2, q_strD, q_rev, q_ixo, q_ext2, q_extT, En.x, wipeD, start', List.getElem?_cons_zero, List.getElem?_cons_succ, List.set_cons_zero, List.set_cons_succ, List.map_cons, List.map_nil, List.length_cons, List.length_nil, List.cons_append, List.nil_append, List.replicate_succ, List.replicate_zero, id, q_asB, q_asI, q_add, q_addS, q_addT, q_addL, q_int, q_sub, q_mul, q_fdiv, q_mod, q_pow, q_neg, q_le, q_ge, q_gt, q_lt, q_ltT, q_isN, q_isB, q_isBi, q_isBs, q_isBn, q_isBt, q_isnt, n_non, n_bl, n_int, n_str, n_tup, n_ref, q_eq, q_eqS, q_eqB, q_ixT, q_ixK, q_ixL, q_ixS, q_slT, q_slL, q_slS, q_set, q_lenT, q_lenK, q_lenS, q_lenL, q_abs, q_intF, q_max, q_min, q_tupT, q_tupL, q_lstT, q_lstL, q_app, q_ext, q_joinL, q_stw, q_seq, q_lst, q_rng, q_rng2, q_zpT, q_zpL, q_truN, q_truB, q_truI, q_truT, q_truL, t_non, t_bl, t_int, t_str, t_tup, q_isiN, q_isiB, q_isiI, q_isiS, q_isiT, i_NoneType_int, i_NoneType_bool, i_NoneType_tuple, i_NoneType_list, i_NoneType_str, i_bool_int, i_bool_bool, i_bool_tuple, i_bool_list, i_bool_str, i_int_int, i_int_bool, i_int_tuple, i_int_list, i_int_str, i_str_int, i_str_bool, i_str_tuple, i_str_list, i_str_str, i_tuple_int, i_tuple_bool, i_tuple_tuple, i_tuple_list, i_tuple_str, i_list_int, i_list_bool, i_list_tuple, i_list_list, i_list_str, i_dict_int, i_dict_bool, i_dict_tuple, i_dict_list, i_dict_str, up_same, g_02, g_02', g_01, g_11, at_0, at_1, ix_0, ix_1, Option.some.injEq, HQ.lst.injEq, exists_eq_left', exists_eq_left, exists_and_left, exists_eq', exists_eq, decide_eq_true_eq, if_true, if_false, ite_true, ite_false, Bool.false_eq_true, reduceIte, reduceCtorEq, Bool.not_true, Bool.not_false, Nat.zero_add, Nat.reduceAdd, Nat.reduceSub, Nat.reduceLeDiff, Nat.reduceLT, Int.reduceLT, Int.reduceLE, Int.reduceEq, Int.reduceNe, Nat.reduceEqDiff, Int.reduceToNat, Int.reducePow, Int.reduceMul, Int.reduceAdd, Int.reduceSub, Int.reduceNeg, and_true, true_and, decide_true, decide_false]
  refine signs_of n7.bx (by decide) (by decide) fun z2 S8 hz2 n8 => ?_
  have n' := (n.trans n7).trans n8
  try simp only [rVar, rC, rBin, rUn, rTst, rChn, rTru, rAnd, rOr, rNot, rAndV, rOrV, rNotV, rIf, rNil, rCons, rTup, rLst, rFn, rCall, rCallK, rSl, rPrt, rNoP, rMt, gNm, q_gN, q_gC, q_gTp, gSb, rNext, rSeq, rDrop, rRet, rRetN, rBrk, rCnt, rIfS, rSet, rPar, rFor, iSeq, iLst, iRg1, iRg2, iZp, iEn, iStrD, rLc, rYes, q_isi2, q_i2N, q_i2B, q_i2I, q_i2S, q_i2T, q_i2L, q_j2N, q_j2B, q_j2I, q_j2S, q_j2T, q_j2L, q_gt2, q_gtT, q_en, q_int2, q_strD, q_rev, q_ixo, q_ext2, q_extT, En.x, wipeD, start', List.getElem?_cons_zero, List.getElem?_cons_succ, List.set_cons_zero, List.set_cons_succ, List.map_cons, List.map_nil, List.length_cons, List.length_nil, List.cons_append, List.nil_append, List.replicate_succ, List.replicate_zero, id, q_asB, q_asI, q_add, q_addS, q_addT, q_addL, q_int, q_sub, q_mul, q_fdiv, q_mod, q_pow, q_neg, q_le, q_ge, q_gt, q_lt, q_ltT, q_isN, q_isB, q_isBi, q_isBs, q_isBn, q_isBt, q_isnt, n_non, n_bl, n_int, n_str, n_tup, n_ref, q_eq, q_eqS, q_eqB, q_ixT, q_ixK, q_ixL, q_ixS, q_slT, q_slL, q_slS, q_set, q_lenT, q_lenK, q_lenS, q_lenL, q_abs, q_intF, q_max, q_min, q_tupT, q_tupL, q_lstT, q_lstL, q_app, q_ext, q_joinL, q_stw, q_seq, q_lst, q_rng, q_rng2, q_zpT, q_zpL, q_truN, q_truB, q_truI, q_truT, q_truL, t_non, t_bl, t_int, t_str, t_tup, q_isiN, q_isiB, q_isiI, q_isiS, q_isiT, i_NoneType_int, i_NoneType_bool, i_NoneType_tuple, i_NoneType_list, i_NoneType_str, i_bool_int, i_bool_bool, i_bool_tuple, i_bool_list, i_bool_str, i_int_int, i_int_bool, i_int_tuple, i_int_list, i_int_str, i_str_int, i_str_bool, i_str_tuple, i_str_list, i_str_str, i_tuple_int, i_tuple_bool, i_tuple_tuple, i_tuple_list, i_tuple_str, i_list_int, i_list_bool, i_list_tuple, i_list_list, i_list_str, i_dict_int, i_dict_bool, i_dict_tuple, i_dict_list, i_dict_str, up_same, g_02, g_02', g_01, g_11, at_0, at_1, ix_0, ix_1, Option.some.injEq, HQ.lst.injEq, exists_eq_left', exists_eq_left, exists_and_left, exists_eq', exists_eq, decide_eq_true_eq, if_true, if_false, ite_true, ite_false, Bool.false_eq_true, reduceIte, reduceCtorEq, Bool.not_true, Bool.not_false, Nat.zero_add, Nat.reduceAdd, Nat.reduceSub, Nat.reduceLeDiff, Nat.reduceLT, Int.reduceLT, Int.reduceLE, Int.reduceEq, Int.reduceNe, Nat.reduceEqDiff, Int.reduceToNat, Int.reducePow, Int.reduceMul, Int.reduceAdd, Int.reduceSub, Int.reduceNeg, and_true, true_and, decide_true, decide_false]
  refine ⟨⟨by omega, by omega⟩, ?_⟩
  refine lc_draw (fun S' => Nx b S8 S') (fun d => ∃ i, d = .int i) (fun _ _ => trivial) _ _ _ (fun x _ S' Q' hi q => ?_) (by rw [rangeD_len]; simp; omega) (by simp) (Nx.refl n8.bx) (fun acc S9 hl ha n9 => ?_)
  · simp only [rVar, rC, rBin, rUn, rTst, rChn, rTru, rAnd, rOr, rNot, rAndV, rOrV, rNotV, rIf, rNil, rCons, rTup, rLst, rFn, rCall, rCallK, rSl, rPrt, rNoP, rMt, gNm, q_gN, q_gC, q_gTp, gSb, rNext, rSeq, rDrop, rRet, rRetN, rBrk, rCnt, rIfS, rSet, rPar, rFor, iSeq, iLst, iRg1, iRg2, iZp, iEn, iStrD, rLc, rYes, q_isi2, q_i2N, q_i2B, q_i2I, q_i2S, q_i2T, q_i2L, q_j2N, q_j2B, q_j2I, q_j2S, q_j2T, q_j2L, q_gt2, q_gtT, q_en, q_int2, q_strD, q_rev, q_ixo, q_ext2, q_extT, En.x, wipeD, start', List.getElem?_cons_zero, List.getElem?_cons_succ, List.set_cons_zero, List.set_cons_succ, List.map_cons, List.map_nil, List.length_cons, List.length_nil, List.cons_append, List.nil_append, List.replicate_succ, List.replicate_zero, id, q_asB, q_asI, q_add, q_addS, q_addT, q_addL, q_int, q_sub, q_mul, q_fdiv, q_mod, q_pow, q_neg, q_le, q_ge, q_gt, q_lt, q_ltT, q_isN, q_isB, q_isBi, q_isBs, q_isBn, q_isBt, q_isnt, n_non, n_bl, n_int, n_str, n_tup, n_ref, q_eq, q_eqS, q_eqB, q_ixT, q_ixK, q_ixL, q_ixS, q_slT, q_slL, q_slS, q_set, q_lenT, q_lenK, q_lenS, q_lenL, q_abs, q_intF, q_max, q_min, q_tupT, q_tupL, q_lstT, q_lstL, q_app, q_ext, q_joinL, q_stw, q_seq, q_lst, q_rng, q_rng2, q_zpT, q_zpL, q_truN, q_truB, q_truI, q_truT, q_truL, t_non, t_bl, t_int, t_str, t_tup, q_isiN, q_isiB, q_isiI, q_isiS, q_isiT, i_NoneType_int, i_NoneType_bool, i_NoneType_tuple, i_NoneType_list, i_NoneType_str, i_bool_int, i_bool_bool, i_bool_tuple, i_bool_list, i_bool_str, i_int_int, i_int_bool, i_int_tuple, i_int_list, i_int_str, i_str_int, i_str_bool, i_str_tuple, i_str_list, i_str_str, i_tuple_int, i_tuple_bool, i_tuple_tuple, i_tuple_list, i_tuple_str, i_list_int, i_list_bool, i_list_tuple, i_list_list, i_list_str, i_dict_int, i_dict_bool, i_dict_tuple, i_dict_list, i_dict_str, up_same, g_02, g_02', g_01, g_11, at_0, at_1, ix_0, ix_1, Option.some.injEq, HQ.lst.injEq, exists_eq_left', exists_eq_left, exists_and_left, exists_eq', exists_eq, decide_eq_true_eq, if_true, if_false, ite_true, ite_false, Bool.false_eq_true, reduceIte, reduceCtorEq, Bool.not_true, Bool.not_false, Nat.zero_add, Nat.reduceAdd, Nat.reduceSub, Nat.reduceLeDiff, Nat.reduceLT, Int.reduceLT, Int.reduceLE, Int.reduceEq, Int.reduceNe, Nat.reduceEqDiff, Int.reduceToNat, Int.reducePow, Int.reduceMul, Int.reduceAdd, Int.reduceSub, Int.reduceNeg, and_true, true_and, decide_true, decide_false]
    refine take_of hi.bx (by decide) (by decide) fun r S'' _ _ nn => ?_
    intro q2 hq2
    refine pick_of nn.bx hq2 (by simp) (by simp) fun d S3 hd n3 => q _ _ ?_ ((hi.trans nn).trans n3)
    obtain ⟨i, _, rfl⟩ := mem_ints (l := [_, _, _, _]) hd
    exact ⟨i, rfl⟩
  · rw [rangeD_len] at hl
    obtain ⟨is, rfl⟩ := ints_of ha
    rw [List.length_map] at hl
    simp only [List.length_nil] at hl
    intro q hq
    try simp only [rVar, rC, rBin, rUn, rTst, rChn, rTru, rAnd, rOr, rNot, rAndV, rOrV, rNotV, rIf, rNil, rCons, rTup, rLst, rFn, rCall, rCallK, rSl, rPrt, rNoP, rMt, gNm, q_gN, q_gC, q_gTp, gSb, rNext, rSeq, rDrop, rRet, rRetN, rBrk, rCnt, rIfS, rSet, rPar, rFor, iSeq, iLst, iRg1, iRg2, iZp, iEn, iStrD, rLc, rYes, q_isi2, q_i2N, q_i2B, q_i2I, q_i2S, q_i2T, q_i2L, q_j2N, q_j2B, q_j2I, q_j2S, q_j2T, q_j2L, q_gt2, q_gtT, q_en, q_int2, q_strD, q_rev, q_ixo, q_ext2, q_extT, En.x, wipeD, start', List.getElem?_cons_zero, List.getElem?_cons_succ, List.set_cons_zero, List.set_cons_succ, List.map_cons, List.map_nil, List.length_cons, List.length_nil, List.cons_append, List.nil_append, List.replicate_succ, List.replicate_zero, id, q_asB, q_asI, q_add, q_addS, q_addT, q_addL, q_int, q_sub, q_mul, q_fdiv, q_mod, q_pow, q_neg, q_le, q_ge, q_gt, q_lt, q_ltT, q_isN, q_isB, q_isBi, q_isBs, q_isBn, q_isBt, q_isnt, n_non, n_bl, n_int, n_str, n_tup, n_ref, q_eq, q_eqS, q_eqB, q_ixT, q_ixK, q_ixL, q_ixS, q_slT, q_slL, q_slS, q_set, q_lenT, q_lenK, q_lenS, q_lenL, q_abs, q_intF, q_max, q_min, q_tupT, q_tupL, q_lstT, q_lstL, q_app, q_ext, q_joinL, q_stw, q_seq, q_lst, q_rng, q_rng2, q_zpT, q_zpL, q_truN, q_truB, q_truI, q_truT, q_truL, t_non, t_bl, t_int, t_str, t_tup, q_isiN, q_isiB, q_isiI, q_isiS, q_isiT, i_NoneType_int, i_NoneType_bool, i_NoneType_tuple, i_NoneType_list, i_NoneType_str, i_bool_int, i_bool_bool, i_bool_tuple, i_bool_list, i_bool_str, i_int_int, i_int_bool, i_int_tuple, i_int_list, i_int_str, i_str_int, i_str_bool, i_str_tuple, i_str_list, i_str_str, i_tuple_int, i_tuple_bool, i_tuple_tuple, i_tuple_list, i_tuple_str, i_list_int, i_list_bool, i_list_tuple, i_list_list, i_list_str, i_dict_int, i_dict_bool, i_dict_tuple, i_dict_list, i_dict_str, up_same, g_02, g_02', g_01, g_11, at_0, at_1, ix_0, ix_1, Option.some.injEq, HQ.lst.injEq, exists_eq_left', exists_eq_left, exists_and_left, exists_eq', exists_eq, decide_eq_true_eq, if_true, if_false, ite_true, ite_false, Bool.false_eq_true, reduceIte, reduceCtorEq, Bool.not_true, Bool.not_false, Nat.zero_add, Nat.reduceAdd, Nat.reduceSub, Nat.reduceLeDiff, Nat.reduceLT, Int.reduceLT, Int.reduceLE, Int.reduceEq, Int.reduceNe, Nat.reduceEqDiff, Int.reduceToNat, Int.reducePow, Int.reduceMul, Int.reduceAdd, Int.reduceSub, Int.reduceNeg, and_true, true_and, decide_true, decide_false, up_same]
    exact k (.mail z2 is) _ ⟨hz2, by omega⟩ ((n'.trans n9).trans (Nx.new n9.bx hq))

def sp_groups_of : Sq := fun ds S Q _ => ∃ w : Int, ds = [.int w] ∧ 0 ≤ w ∧ w < 2 ^ 62 ∧ ∀ p, S p = none → Q (.ref p) (up S p (.lst ((gI 99 w).map D.int)))
theorem ln_groups_of : ∀ ds S Q E, sp_groups_of ds S Q E → ds.length = 1 := by rintro _ _ _ _ ⟨b, rfl, _⟩; rfl
theorem nx_groups_of : ∀ ds S Q E, sp_groups_of ds S Q E → sp_groups_of ds S Q NoX := fun _ _ _ _ h => h

def rd_groups_of : RSt :=
 (rSeq (rSet (rLst rNil) (gNm 1))
 (rSeq (rWhile (rTst (rBin geD (rVar 0) (rC (.int 128))))
 (rSeq (rDrop (rMt "list" appD (rVar 1) (rCons (rBin addD (rC (.int 128)) (rBin andD (rVar 0) (rC (.int 127)))) rNil)))
 (rSet (rBin fdivD (rVar 0) (rC (.int 128))) (gNm 0))))
 (rSeq (rDrop (rMt "list" appD (rVar 1) (rCons (rVar 0) rNil)))
 (rRet (rVar 1)))))

theorem pu_groups_of : ∀ ds S Q, sp_groups_of ds S Q NoX → rd_groups_of { nx := fun _ S => Q .non S, rt := Q } (start' 2 ds) S := by

  rintro _ S Q ⟨w, rfl, h0, h1, k⟩
  unfold rd_groups_of
  simp only [rVar, rC, rBin, rUn, rTst, rChn, rTru, rAnd, rOr, rNot, rAndV, rOrV, rNotV, rIf, rNil, rCons, rTup, rLst, rFn, rCall, rCallK, rSl, rPrt, rNoP, rMt, gNm, q_gN, q_gC, q_gTp, gSb, rNext, rSeq, rDrop, rRet, rRetN, rBrk, rCnt, rIfS, rSet, rPar, rFor, iSeq, iLst, iRg1, iRg2, iZp, iEn, iStrD, rLc, rYes, q_isi2, q_i2N, q_i2B, q_i2I, q_i2S, q_i2T, q_i2L, q_j2N, q_j2B, q_j2I, q_j2S, q_j2T, q_j2L, q_gt2, q_gtT, q_en, q_int2, q_strD, q_rev, q_ixo, q_ext2, q_extT, En.x, wipeD, start', List.getElem?_cons_zero, List.getElem?_cons_succ, List.set_cons_zero, List.set_cons_succ, List.map_cons, List.map_nil, List.length_cons, List.length_nil, List.cons_append, List.nil_append, List.replicate_succ, List.replicate_zero, id, q_asB, q_asI, q_add, q_addS, q_addT, q_addL, q_int, q_sub, q_mul, q_fdiv, q_mod, q_pow, q_neg, q_le, q_ge, q_gt, q_lt, q_ltT, q_isN, q_isB, q_isBi, q_isBs, q_isBn, q_isBt, q_isnt, n_non, n_bl, n_int, n_str, n_tup, n_ref, q_eq, q_eqS, q_eqB, q_ixT, q_ixK, q_ixL, q_ixS, q_slT, q_slL, q_slS, q_set, q_lenT, q_lenK, q_lenS, q_lenL, q_abs, q_intF, q_max, q_min, q_tupT, q_tupL, q_lstT, q_lstL, q_app, q_ext, q_joinL, q_stw, q_seq, q_lst, q_rng, q_rng2, q_zpT, q_zpL, q_truN, q_truB, q_truI, q_truT, q_truL, t_non, t_bl, t_int, t_str, t_tup, q_isiN, q_isiB, q_isiI, q_isiS, q_isiT, i_NoneType_int, i_NoneType_bool, i_NoneType_tuple, i_NoneType_list, i_NoneType_str, i_bool_int, i_bool_bool, i_bool_tuple, i_bool_list, i_bool_str, i_int_int, i_int_bool, i_int_tuple, i_int_list, i_int_str, i_str_int, i_str_bool, i_str_tuple, i_str_list, i_str_str, i_tuple_int, i_tuple_bool, i_tuple_tuple, i_tuple_list, i_tuple_str, i_list_int, i_list_bool, i_list_tuple, i_list_list, i_list_str, i_dict_int, i_dict_bool, i_dict_tuple, i_dict_list, i_dict_str, up_same, g_02, g_02', g_01, g_11, at_0, at_1, ix_0, ix_1, Option.some.injEq, HQ.lst.injEq, exists_eq_left', exists_eq_left, exists_and_left, exists_eq', exists_eq, decide_eq_true_eq, if_true, if_false, ite_true, ite_false, Bool.false_eq_true, reduceIte, reduceCtorEq, Bool.not_true, Bool.not_false, Nat.zero_add, Nat.reduceAdd, Nat.reduceSub, Nat.reduceLeDiff, Nat.reduceLT, Int.reduceLT, Int.reduceLE, Int.reduceEq, Int.reduceNe, Nat.reduceEqDiff, Int.reduceToNat, Int.reducePow, Int.reduceMul, Int.reduceAdd, Int.reduceSub, Int.reduceNeg, and_true, true_and, decide_true, decide_false]
  intro p hp
  refine ⟨fun m σ S' => ∃ (v : Int) (acc : List Int), σ = [some (.int v), some (.ref p)] ∧ S' = up S p (.lst (acc.map D.int)) ∧ 0 ≤ v ∧ v < 128 ^ (m + 1) ∧ acc.length + m ≤ 99 ∧ acc ++ gI m v = gI 99 w, ⟨99, w, [], rfl, rfl, h0, Int.lt_of_lt_of_le h1 (by decide +kernel), by simp, rfl⟩, ?_⟩
  rintro m σ S' ⟨v, acc, rfl, rfl, hv0, hv1, hl, e⟩
  simp only [rVar, rC, rBin, rUn, rTst, rChn, rTru, rAnd, rOr, rNot, rAndV, rOrV, rNotV, rIf, rNil, rCons, rTup, rLst, rFn, rCall, rCallK, rSl, rPrt, rNoP, rMt, gNm, q_gN, q_gC, q_gTp, gSb, rNext, rSeq, rDrop, rRet, rRetN, rBrk, rCnt, rIfS, rSet, rPar, rFor, iSeq, iLst, iRg1, iRg2, iZp, iEn, iStrD, rLc, rYes, q_isi2, q_i2N, q_i2B, q_i2I, q_i2S, q_i2T, q_i2L, q_j2N, q_j2B, q_j2I, q_j2S, q_j2T, q_j2L, q_gt2, q_gtT, q_en, q_int2, q_strD, q_rev, q_ixo, q_ext2, q_extT, En.x, wipeD, start', List.getElem?_cons_zero, List.getElem?_cons_succ, List.set_cons_zero, List.set_cons_succ, List.map_cons, List.map_nil, List.length_cons, List.length_nil, List.cons_append, List.nil_append, List.replicate_succ, List.replicate_zero, id, q_asB, q_asI, q_add, q_addS, q_addT, q_addL, q_int, q_sub, q_mul, q_fdiv, q_mod, q_pow, q_neg, q_le, q_ge, q_gt, q_lt, q_ltT, q_isN, q_isB, q_isBi, q_isBs, q_isBn, q_isBt, q_isnt, n_non, n_bl, n_int, n_str, n_tup, n_ref, q_eq, q_eqS, q_eqB, q_ixT, q_ixK, q_ixL, q_ixS, q_slT, q_slL, q_slS, q_set, q_lenT, q_lenK, q_lenS, q_lenL, q_abs, q_intF, q_max, q_min, q_tupT, q_tupL, q_lstT, q_lstL, q_app, q_ext, q_joinL, q_stw, q_seq, q_lst, q_rng, q_rng2, q_zpT, q_zpL, q_truN, q_truB, q_truI, q_truT, q_truL, t_non, t_bl, t_int, t_str, t_tup, q_isiN, q_isiB, q_isiI, q_isiS, q_isiT, i_NoneType_int, i_NoneType_bool, i_NoneType_tuple, i_NoneType_list, i_NoneType_str, i_bool_int, i_bool_bool, i_bool_tuple, i_bool_list, i_bool_str, i_int_int, i_int_bool, i_int_tuple, i_int_list, i_int_str, i_str_int, i_str_bool, i_str_tuple, i_str_list, i_str_str, i_tuple_int, i_tuple_bool, i_tuple_tuple, i_tuple_list, i_tuple_str, i_list_int, i_list_bool, i_list_tuple, i_list_list, i_list_str, i_dict_int, i_dict_bool, i_dict_tuple, i_dict_list, i_dict_str, up_same, g_02, g_02', g_01, g_11, at_0, at_1, ix_0, ix_1, Option.some.injEq, HQ.lst.injEq, exists_eq_left', exists_eq_left, exists_and_left, exists_eq', exists_eq, decide_eq_true_eq, if_true, if_false, ite_true, ite_false, Bool.false_eq_true, reduceIte, reduceCtorEq, Bool.not_true, Bool.not_false, Nat.zero_add, Nat.reduceAdd, Nat.reduceSub, Nat.reduceLeDiff, Nat.reduceLT, Int.reduceLT, Int.reduceLE, Int.reduceEq, Int.reduceNe, Nat.reduceEqDiff, Int.reduceToNat, Int.reducePow, Int.reduceMul, Int.reduceAdd, Int.reduceSub, Int.reduceNeg, and_true, true_and, decide_true, decide_false]
  by_cases c : (128 : Int) ≤ v
  · simp only [c, rVar, rC, rBin, rUn, rTst, rChn, rTru, rAnd, rOr, rNot, rAndV, rOrV, rNotV, rIf, rNil, rCons, rTup, rLst, rFn, rCall, rCallK, rSl, rPrt, rNoP, rMt, gNm, q_gN, q_gC, q_gTp, gSb, rNext, rSeq, rDrop, rRet, rRetN, rBrk, rCnt, rIfS, rSet, rPar, rFor, iSeq, iLst, iRg1, iRg2, iZp, iEn, iStrD, rLc, rYes, q_isi2, q_i2N, q_i2B, q_i2I, q_i2S, q_i2T, q_i2L, q_j2N, q_j2B, q_j2I, q_j2S, q_j2T, q_j2L, q_gt2, q_gtT, q_en, q_int2, q_strD, q_rev, q_ixo, q_ext2, q_extT, En.x, wipeD, start', List.getElem?_cons_zero, List.getElem?_cons_succ, List.set_cons_zero, List.set_cons_succ, List.map_cons, List.map_nil, List.length_cons, List.length_nil, List.cons_append, List.nil_append, List.replicate_succ, List.replicate_zero, id, q_asB, q_asI, q_add, q_addS, q_addT, q_addL, q_int, q_sub, q_mul, q_fdiv, q_mod, q_pow, q_neg, q_le, q_ge, q_gt, q_lt, q_ltT, q_isN, q_isB, q_isBi, q_isBs, q_isBn, q_isBt, q_isnt, n_non, n_bl, n_int, n_str, n_tup, n_ref, q_eq, q_eqS, q_eqB, q_ixT, q_ixK, q_ixL, q_ixS, q_slT, q_slL, q_slS, q_set, q_lenT, q_lenK, q_lenS, q_lenL, q_abs, q_intF, q_max, q_min, q_tupT, q_tupL, q_lstT, q_lstL, q_app, q_ext, q_joinL, q_stw, q_seq, q_lst, q_rng, q_rng2, q_zpT, q_zpL, q_truN, q_truB, q_truI, q_truT, q_truL, t_non, t_bl, t_int, t_str, t_tup, q_isiN, q_isiB, q_isiI, q_isiS, q_isiT, i_NoneType_int, i_NoneType_bool, i_NoneType_tuple, i_NoneType_list, i_NoneType_str, i_bool_int, i_bool_bool, i_bool_tuple, i_bool_list, i_bool_str, i_int_int, i_int_bool, i_int_tuple, i_int_list, i_int_str, i_str_int, i_str_bool, i_str_tuple, i_str_list, i_str_str, i_tuple_int, i_tuple_bool, i_tuple_tuple, i_tuple_list, i_tuple_str, i_list_int, i_list_bool, i_list_tuple, i_list_list, i_list_str, i_dict_int, i_dict_bool, i_dict_tuple, i_dict_list, i_dict_str, up_same, g_02, g_02', g_01, g_11, at_0, at_1, ix_0, ix_1, Option.some.injEq, HQ.lst.injEq, exists_eq_left', exists_eq_left, exists_and_left, exists_eq', exists_eq, decide_eq_true_eq, if_true, if_false, ite_true, ite_false, Bool.false_eq_true, reduceIte, reduceCtorEq, Bool.not_true, Bool.not_false, Nat.zero_add, Nat.reduceAdd, Nat.reduceSub, Nat.reduceLeDiff, Nat.reduceLT, Int.reduceLT, Int.reduceLE, Int.reduceEq, Int.reduceNe, Nat.reduceEqDiff, Int.reduceToNat, Int.reducePow, Int.reduceMul, Int.reduceAdd, Int.reduceSub, Int.reduceNeg, and_true, true_and, decide_true, decide_false, q_and]
    cases m with
    | zero => omega
    | succ m =>
      rw [gI_more c] at e
      rw [Int.pow_succ] at hv1
      have hq := Int.ediv_lt_of_lt_mul (c := 128) (by decide) hv1
      refine ⟨t_lst up_same, by simp; omega, ⟨by decide, by decide⟩, m, by omega, v / 128, rfl, acc ++ [128 + Builtin.bitAnd v 127], by rw [up_up]; simp, by omega, hq, by simp; omega, ?_⟩
      rw [and127 hv0, ← e, Int.add_comm 128]; simp
  · simp only [c, rVar, rC, rBin, rUn, rTst, rChn, rTru, rAnd, rOr, rNot, rAndV, rOrV, rNotV, rIf, rNil, rCons, rTup, rLst, rFn, rCall, rCallK, rSl, rPrt, rNoP, rMt, gNm, q_gN, q_gC, q_gTp, gSb, rNext, rSeq, rDrop, rRet, rRetN, rBrk, rCnt, rIfS, rSet, rPar, rFor, iSeq, iLst, iRg1, iRg2, iZp, iEn, iStrD, rLc, rYes, q_isi2, q_i2N, q_i2B, q_i2I, q_i2S, q_i2T, q_i2L, q_j2N, q_j2B, q_j2I, q_j2S, q_j2T, q_j2L, q_gt2, q_gtT, q_en, q_int2, q_strD, q_rev, q_ixo, q_ext2, q_extT, En.x, wipeD, start', List.getElem?_cons_zero, List.getElem?_cons_succ, List.set_cons_zero, List.set_cons_succ, List.map_cons, List.map_nil, List.length_cons, List.length_nil, List.cons_append, List.nil_append, List.replicate_succ, List.replicate_zero, id, q_asB, q_asI, q_add, q_addS, q_addT, q_addL, q_int, q_sub, q_mul, q_fdiv, q_mod, q_pow, q_neg, q_le, q_ge, q_gt, q_lt, q_ltT, q_isN, q_isB, q_isBi, q_isBs, q_isBn, q_isBt, q_isnt, n_non, n_bl, n_int, n_str, n_tup, n_ref, q_eq, q_eqS, q_eqB, q_ixT, q_ixK, q_ixL, q_ixS, q_slT, q_slL, q_slS, q_set, q_lenT, q_lenK, q_lenS, q_lenL, q_abs, q_intF, q_max, q_min, q_tupT, q_tupL, q_lstT, q_lstL, q_app, q_ext, q_joinL, q_stw, q_seq, q_lst, q_rng, q_rng2, q_zpT, q_zpL, q_truN, q_truB, q_truI, q_truT, q_truL, t_non, t_bl, t_int, t_str, t_tup, q_isiN, q_isiB, q_isiI, q_isiS, q_isiT, i_NoneType_int, i_NoneType_bool, i_NoneType_tuple, i_NoneType_list, i_NoneType_str, i_bool_int, i_bool_bool, i_bool_tuple, i_bool_list, i_bool_str, i_int_int, i_int_bool, i_int_tuple, i_int_list, i_int_str, i_str_int, i_str_bool, i_str_tuple, i_str_list, i_str_str, i_tuple_int, i_tuple_bool, i_tuple_tuple, i_tuple_list, i_tuple_str, i_list_int, i_list_bool, i_list_tuple, i_list_list, i_list_str, i_dict_int, i_dict_bool, i_dict_tuple, i_dict_list, i_dict_str, up_same, g_02, g_02', g_01, g_11, at_0, at_1, ix_0, ix_1, Option.some.injEq, HQ.lst.injEq, exists_eq_left', exists_eq_left, exists_and_left, exists_eq', exists_eq, decide_eq_true_eq, if_true, if_false, ite_true, ite_false, Bool.false_eq_true, reduceIte, reduceCtorEq, Bool.not_true, Bool.not_false, Nat.zero_add, Nat.reduceAdd, Nat.reduceSub, Nat.reduceLeDiff, Nat.reduceLT, Int.reduceLT, Int.reduceLE, Int.reduceEq, Int.reduceNe, Nat.reduceEqDiff, Int.reduceToNat, Int.reducePow, Int.reduceMul, Int.reduceAdd, Int.reduceSub, Int.reduceNeg, and_true, true_and, decide_true, decide_false]
    rw [gI_one (by omega)] at e
    refine ⟨t_lst up_same, by simp; omega, ?_⟩
    have := k p hp
    rw [← e] at this
    rw [up_up]
    simpa using this

def sp_stretch_octet : Sq := fun ds S Q _ => ∃ z : Str, ds = [.str z] ∧ SgOk z ∧ Q (.int (plI z)) S
theorem ln_stretch_octet : ∀ ds S Q E, sp_stretch_octet ds S Q E → ds.length = 1 := by rintro _ _ _ _ ⟨b, rfl, _⟩; rfl
theorem nx_stretch_octet : ∀ ds S Q E, sp_stretch_octet ds S Q E → sp_stretch_octet ds S Q NoX := fun _ _ _ _ h => h

def rd_stretch_octet : RSt :=
 (rRet (rFn int2F (rCons (rBin addD (rC (.str (Str.ofString "1"))) (rVar 0)) (rCons (rC (.int 2)) rNil))))

theorem pu_stretch_octet : ∀ ds S Q, sp_stretch_octet ds S Q NoX → rd_stretch_octet { nx := fun _ S => Q .non S, rt := Q } (start' 1 ds) S := by

  rintro _ S Q ⟨z, rfl, hz, k⟩
  unfold rd_stretch_octet
  have e : (Str.ofString "1" ++ z).cps.toList = 49 :: z.cps.toList := by
    have h1 : (Str.ofString "1").cps.toList = [49] := by decide +kernel
    show ((Str.ofString "1").cps ++ z.cps).toList = _
    rw [Array.toList_append, h1]; rfl
  have hl : (Str.ofString "1" ++ z).length = z.length + 1 := by
    show (Str.ofString "1" ++ z).cps.size = _
    rw [← Array.length_toList, e, List.length_cons, Array.length_toList]; rfl
  have l1 : (Str.ofString "1").length = 1 := by decide +kernel
  simp only [rVar, rC, rBin, rUn, rTst, rChn, rTru, rAnd, rOr, rNot, rAndV, rOrV, rNotV, rIf, rNil, rCons, rTup, rLst, rFn, rCall, rCallK, rSl, rPrt, rNoP, rMt, gNm, q_gN, q_gC, q_gTp, gSb, rNext, rSeq, rDrop, rRet, rRetN, rBrk, rCnt, rIfS, rSet, rPar, rFor, iSeq, iLst, iRg1, iRg2, iZp, iEn, iStrD, rLc, rYes, q_isi2, q_i2N, q_i2B, q_i2I, q_i2S, q_i2T, q_i2L, q_j2N, q_j2B, q_j2I, q_j2S, q_j2T, q_j2L, q_gt2, q_gtT, q_en, q_int2, q_strD, q_rev, q_ixo, q_ext2, q_extT, En.x, wipeD, start', List.getElem?_cons_zero, List.getElem?_cons_succ, List.set_cons_zero, List.set_cons_succ, List.map_cons, List.map_nil, List.length_cons, List.length_nil, List.cons_append, List.nil_append, List.replicate_succ, List.replicate_zero, id, q_asB, q_asI, q_add, q_addS, q_addT, q_addL, q_int, q_sub, q_mul, q_fdiv, q_mod, q_pow, q_neg, q_le, q_ge, q_gt, q_lt, q_ltT, q_isN, q_isB, q_isBi, q_isBs, q_isBn, q_isBt, q_isnt, n_non, n_bl, n_int, n_str, n_tup, n_ref, q_eq, q_eqS, q_eqB, q_ixT, q_ixK, q_ixL, q_ixS, q_slT, q_slL, q_slS, q_set, q_lenT, q_lenK, q_lenS, q_lenL, q_abs, q_intF, q_max, q_min, q_tupT, q_tupL, q_lstT, q_lstL, q_app, q_ext, q_joinL, q_stw, q_seq, q_lst, q_rng, q_rng2, q_zpT, q_zpL, q_truN, q_truB, q_truI, q_truT, q_truL, t_non, t_bl, t_int, t_str, t_tup, q_isiN, q_isiB, q_isiI, q_isiS, q_isiT, i_NoneType_int, i_NoneType_bool, i_NoneType_tuple, i_NoneType_list, i_NoneType_str, i_bool_int, i_bool_bool, i_bool_tuple, i_bool_list, i_bool_str, i_int_int, i_int_bool, i_int_tuple, i_int_list, i_int_str, i_str_int, i_str_bool, i_str_tuple, i_str_list, i_str_str, i_tuple_int, i_tuple_bool, i_tuple_tuple, i_tuple_list, i_tuple_str, i_list_int, i_list_bool, i_list_tuple, i_list_list, i_list_str, i_dict_int, i_dict_bool, i_dict_tuple, i_dict_list, i_dict_str, up_same, g_02, g_02', g_01, g_11, at_0, at_1, ix_0, ix_1, Option.some.injEq, HQ.lst.injEq, exists_eq_left', exists_eq_left, exists_and_left, exists_eq', exists_eq, decide_eq_true_eq, if_true, if_false, ite_true, ite_false, Bool.false_eq_true, reduceIte, reduceCtorEq, Bool.not_true, Bool.not_false, Nat.zero_add, Nat.reduceAdd, Nat.reduceSub, Nat.reduceLeDiff, Nat.reduceLT, Int.reduceLT, Int.reduceLE, Int.reduceEq, Int.reduceNe, Nat.reduceEqDiff, Int.reduceToNat, Int.reducePow, Int.reduceMul, Int.reduceAdd, Int.reduceSub, Int.reduceNeg, and_true, true_and, decide_true, decide_false, e, hl]
  have h1 := hz.1
  refine ⟨by rw [l1]; omega, by simp, by omega, fun c hc => ?_, k⟩
  rcases List.mem_cons.mp hc with rfl | hc
  · exact .inr rfl
  · exact hz.2 c hc

def sp_number_octets : Sq := fun ds S Q _ => ∃ o, ds = [ofO o] ∧ (∀ ns, o = some ns → NuOk ns) ∧ ∀ p S', Le S S' → S p = none → S' p = some (.lst ((numO o).map D.int)) → Q (.ref p) S'
theorem ln_number_octets : ∀ ds S Q E, sp_number_octets ds S Q E → ds.length = 1 := by rintro _ _ _ _ ⟨b, rfl, _⟩; rfl
theorem nx_number_octets : ∀ ds S Q E, sp_number_octets ds S Q E → sp_number_octets ds S Q NoX := fun _ _ _ _ h => h
theorem flat_len {k : Nat} (f : Int → List Int) (h : ∀ e, (f e).length ≤ k) : ∀ r : List Int, ((r.map f).flatten).length ≤ k * r.length
  | [] => by simp
  | e :: r => by
    rw [List.map_cons, List.flatten_cons, List.length_append, List.length_cons, Nat.mul_succ]
    have := flat_len f h r; have := h e; omega
theorem Le.was {S S' : Hq} {p : Addr} (l : Le S S') (h : S' p = none) : S p = none := by
  cases g : S p with
  | none => rfl
  | some o => have := l p o g; rw [h] at this; cases this

def rd_number_octets : RSt :=
 (rSeq (rIfS (rTst (rBin isD (rVar 0) (rC .non)))
 (rRet (rLst (rCons (rC (.int 0)) rNil)))
 rNext)
 (rSeq (rSet (rBin addD (rLst (rCons (rFn lenD (rCons (rVar 0) rNil)) rNil)) (rCall sp_groups_of (rCons (rBin ixD (rVar 0) (rC (.int 0))) rNil))) (gNm 1))
 (rSeq (rFor (iSeq (rSl (rVar 0) (rPrt (rC (.int 1))) rNoP)) (gNm 2)
 (rDrop (rMt "list" extD2 (rVar 1) (rCons (rCall sp_groups_of (rCons (rIf (rTst (rBin geD (rVar 2) (rC (.int 0)))) (rBin mulD (rC (.int 2)) (rVar 2)) (rBin subD (rBin mulD (rUn negD (rC (.int 2))) (rVar 2)) (rC (.int 1)))) rNil)) rNil))))
 (rRet (rVar 1)))))

theorem pu_number_octets : ∀ ds S Q, sp_number_octets ds S Q NoX → rd_number_octets { nx := fun _ S => Q .non S, rt := Q } (start' 3 ds) S := by

  rintro _ S Q ⟨o, rfl, ho, k⟩
  unfold rd_number_octets
  cases o with
  | none =>
    simp only [rVar, rC, rBin, rUn, rTst, rChn, rTru, rAnd, rOr, rNot, rAndV, rOrV, rNotV, rIf, rNil, rCons, rTup, rLst, rFn, rCall, rCallK, rSl, rPrt, rNoP, rMt, gNm, q_gN, q_gC, q_gTp, gSb, rNext, rSeq, rDrop, rRet, rRetN, rBrk, rCnt, rIfS, rSet, rPar, rFor, iSeq, iLst, iRg1, iRg2, iZp, iEn, iStrD, rLc, rYes, q_isi2, q_i2N, q_i2B, q_i2I, q_i2S, q_i2T, q_i2L, q_j2N, q_j2B, q_j2I, q_j2S, q_j2T, q_j2L, q_gt2, q_gtT, q_en, q_int2, q_strD, q_rev, q_ixo, q_ext2, q_extT, En.x, wipeD, start', List.getElem?_cons_zero, List.getElem?_cons_succ, List.set_cons_zero, List.set_cons_succ, List.map_cons, List.map_nil, List.length_cons, List.length_nil, List.cons_append, List.nil_append, List.replicate_succ, List.replicate_zero, id, q_asB, q_asI, q_add, q_addS, q_addT, q_addL, q_int, q_sub, q_mul, q_fdiv, q_mod, q_pow, q_neg, q_le, q_ge, q_gt, q_lt, q_ltT, q_isN, q_isB, q_isBi, q_isBs, q_isBn, q_isBt, q_isnt, n_non, n_bl, n_int, n_str, n_tup, n_ref, q_eq, q_eqS, q_eqB, q_ixT, q_ixK, q_ixL, q_ixS, q_slT, q_slL, q_slS, q_set, q_lenT, q_lenK, q_lenS, q_lenL, q_abs, q_intF, q_max, q_min, q_tupT, q_tupL, q_lstT, q_lstL, q_app, q_ext, q_joinL, q_stw, q_seq, q_lst, q_rng, q_rng2, q_zpT, q_zpL, q_truN, q_truB, q_truI, q_truT, q_truL, t_non, t_bl, t_int, t_str, t_tup, q_isiN, q_isiB, q_isiI, q_isiS, q_isiT, i_NoneType_int, i_NoneType_bool, i_NoneType_tuple, i_NoneType_list, i_NoneType_str, i_bool_int, i_bool_bool, i_bool_tuple, i_bool_list, i_bool_str, i_int_int, i_int_bool, i_int_tuple, i_int_list, i_int_str, i_str_int, i_str_bool, i_str_tuple, i_str_list, i_str_str, i_tuple_int, i_tuple_bool, i_tuple_tuple, i_tuple_list, i_tuple_str, i_list_int, i_list_bool, i_list_tuple, i_list_list, i_list_str, i_dict_int, i_dict_bool, i_dict_tuple, i_dict_list, i_dict_str, up_same, g_02, g_02', g_01, g_11, at_0, at_1, ix_0, ix_1, Option.some.injEq, HQ.lst.injEq, exists_eq_left', exists_eq_left, exists_and_left, exists_eq', exists_eq, decide_eq_true_eq, if_true, if_false, ite_true, ite_false, Bool.false_eq_true, reduceIte, reduceCtorEq, Bool.not_true, Bool.not_false, Nat.zero_add, Nat.reduceAdd, Nat.reduceSub, Nat.reduceLeDiff, Nat.reduceLT, Int.reduceLT, Int.reduceLE, Int.reduceEq, Int.reduceNe, Nat.reduceEqDiff, Int.reduceToNat, Int.reducePow, Int.reduceMul, Int.reduceAdd, Int.reduceSub, Int.reduceNeg, and_true, true_and, decide_true, decide_false, ofO]
    intro p hp
    exact k p _ (Le.new hp) hp up_same
  | some ns =>
    obtain ⟨n, r, rfl, n0, n1, hr, hre⟩ := ho ns rfl
    simp only [rVar, rC, rBin, rUn, rTst, rChn, rTru, rAnd, rOr, rNot, rAndV, rOrV, rNotV, rIf, rNil, rCons, rTup, rLst, rFn, rCall, rCallK, rSl, rPrt, rNoP, rMt, gNm, q_gN, q_gC, q_gTp, gSb, rNext, rSeq, rDrop, rRet, rRetN, rBrk, rCnt, rIfS, rSet, rPar, rFor, iSeq, iLst, iRg1, iRg2, iZp, iEn, iStrD, rLc, rYes, q_isi2, q_i2N, q_i2B, q_i2I, q_i2S, q_i2T, q_i2L, q_j2N, q_j2B, q_j2I, q_j2S, q_j2T, q_j2L, q_gt2, q_gtT, q_en, q_int2, q_strD, q_rev, q_ixo, q_ext2, q_extT, En.x, wipeD, start', List.getElem?_cons_zero, List.getElem?_cons_succ, List.set_cons_zero, List.set_cons_succ, List.map_cons, List.map_nil, List.length_cons, List.length_nil, List.cons_append, List.nil_append, List.replicate_succ, List.replicate_zero, id, q_asB, q_asI, q_add, q_addS, q_addT, q_addL, q_int, q_sub, q_mul, q_fdiv, q_mod, q_pow, q_neg, q_le, q_ge, q_gt, q_lt, q_ltT, q_isN, q_isB, q_isBi, q_isBs, q_isBn, q_isBt, q_isnt, n_non, n_bl, n_int, n_str, n_tup, n_ref, q_eq, q_eqS, q_eqB, q_ixT, q_ixK, q_ixL, q_ixS, q_slT, q_slL, q_slS, q_set, q_lenT, q_lenK, q_lenS, q_lenL, q_abs, q_intF, q_max, q_min, q_tupT, q_tupL, q_lstT, q_lstL, q_app, q_ext, q_joinL, q_stw, q_seq, q_lst, q_rng, q_rng2, q_zpT, q_zpL, q_truN, q_truB, q_truI, q_truT, q_truL, t_non, t_bl, t_int, t_str, t_tup, q_isiN, q_isiB, q_isiI, q_isiS, q_isiT, i_NoneType_int, i_NoneType_bool, i_NoneType_tuple, i_NoneType_list, i_NoneType_str, i_bool_int, i_bool_bool, i_bool_tuple, i_bool_list, i_bool_str, i_int_int, i_int_bool, i_int_tuple, i_int_list, i_int_str, i_str_int, i_str_bool, i_str_tuple, i_str_list, i_str_str, i_tuple_int, i_tuple_bool, i_tuple_tuple, i_tuple_list, i_tuple_str, i_list_int, i_list_bool, i_list_tuple, i_list_list, i_list_str, i_dict_int, i_dict_bool, i_dict_tuple, i_dict_list, i_dict_str, up_same, g_02, g_02', g_01, g_11, at_0, at_1, ix_0, ix_1, Option.some.injEq, HQ.lst.injEq, exists_eq_left', exists_eq_left, exists_and_left, exists_eq', exists_eq, decide_eq_true_eq, if_true, if_false, ite_true, ite_false, Bool.false_eq_true, reduceIte, reduceCtorEq, Bool.not_true, Bool.not_false, Nat.zero_add, Nat.reduceAdd, Nat.reduceSub, Nat.reduceLeDiff, Nat.reduceLT, Int.reduceLT, Int.reduceLE, Int.reduceEq, Int.reduceNe, Nat.reduceEqDiff, Int.reduceToNat, Int.reducePow, Int.reduceMul, Int.reduceAdd, Int.reduceSub, Int.reduceNeg, and_true, true_and, decide_true, decide_false, ofO, List.length_map]
    intro p hp
    refine ⟨n, rfl, n0, by omega, fun q hq => ?_⟩
    simp only [rVar, rC, rBin, rUn, rTst, rChn, rTru, rAnd, rOr, rNot, rAndV, rOrV, rNotV, rIf, rNil, rCons, rTup, rLst, rFn, rCall, rCallK, rSl, rPrt, rNoP, rMt, gNm, q_gN, q_gC, q_gTp, gSb, rNext, rSeq, rDrop, rRet, rRetN, rBrk, rCnt, rIfS, rSet, rPar, rFor, iSeq, iLst, iRg1, iRg2, iZp, iEn, iStrD, rLc, rYes, q_isi2, q_i2N, q_i2B, q_i2I, q_i2S, q_i2T, q_i2L, q_j2N, q_j2B, q_j2I, q_j2S, q_j2T, q_j2L, q_gt2, q_gtT, q_en, q_int2, q_strD, q_rev, q_ixo, q_ext2, q_extT, En.x, wipeD, start', List.getElem?_cons_zero, List.getElem?_cons_succ, List.set_cons_zero, List.set_cons_succ, List.map_cons, List.map_nil, List.length_cons, List.length_nil, List.cons_append, List.nil_append, List.replicate_succ, List.replicate_zero, id, q_asB, q_asI, q_add, q_addS, q_addT, q_addL, q_int, q_sub, q_mul, q_fdiv, q_mod, q_pow, q_neg, q_le, q_ge, q_gt, q_lt, q_ltT, q_isN, q_isB, q_isBi, q_isBs, q_isBn, q_isBt, q_isnt, n_non, n_bl, n_int, n_str, n_tup, n_ref, q_eq, q_eqS, q_eqB, q_ixT, q_ixK, q_ixL, q_ixS, q_slT, q_slL, q_slS, q_set, q_lenT, q_lenK, q_lenS, q_lenL, q_abs, q_intF, q_max, q_min, q_tupT, q_tupL, q_lstT, q_lstL, q_app, q_ext, q_joinL, q_stw, q_seq, q_lst, q_rng, q_rng2, q_zpT, q_zpL, q_truN, q_truB, q_truI, q_truT, q_truL, t_non, t_bl, t_int, t_str, t_tup, q_isiN, q_isiB, q_isiI, q_isiS, q_isiT, i_NoneType_int, i_NoneType_bool, i_NoneType_tuple, i_NoneType_list, i_NoneType_str, i_bool_int, i_bool_bool, i_bool_tuple, i_bool_list, i_bool_str, i_int_int, i_int_bool, i_int_tuple, i_int_list, i_int_str, i_str_int, i_str_bool, i_str_tuple, i_str_list, i_str_str, i_tuple_int, i_tuple_bool, i_tuple_tuple, i_tuple_list, i_tuple_str, i_list_int, i_list_bool, i_list_tuple, i_list_list, i_list_str, i_dict_int, i_dict_bool, i_dict_tuple, i_dict_list, i_dict_str, up_same, g_02, g_02', g_01, g_11, at_0, at_1, ix_0, ix_1, Option.some.injEq, HQ.lst.injEq, exists_eq_left', exists_eq_left, exists_and_left, exists_eq', exists_eq, decide_eq_true_eq, if_true, if_false, ite_true, ite_false, Bool.false_eq_true, reduceIte, reduceCtorEq, Bool.not_true, Bool.not_false, Nat.zero_add, Nat.reduceAdd, Nat.reduceSub, Nat.reduceLeDiff, Nat.reduceLT, Int.reduceLT, Int.reduceLE, Int.reduceEq, Int.reduceNe, Nat.reduceEqDiff, Int.reduceToNat, Int.reducePow, Int.reduceMul, Int.reduceAdd, Int.reduceSub, Int.reduceNeg, and_true, true_and, decide_true, decide_false]
    refine ⟨_, up_get hq up_same, by have := gI_len (k := 99) (w := n); simp; omega, fun u hu => ?_⟩
    have l1 : Le S (up (up S p (.lst [.int ((r.length + 1 : Nat) : Int)])) q (.lst ((gI 99 n).map D.int))) := (Le.new hp).trans (Le.new hq)
    have hc : cutL (D.int n :: r.map D.int) (some 1) none = r.map D.int := by rw [cutL_from _ (by decide)]; rfl
    have hu0 := l1.was hu
    generalize up (up S p (.lst [.int ((r.length + 1 : Nat) : Int)])) q (.lst ((gI 99 n).map D.int)) = S1 at l1 hu ⊢
    simp only [hc]
    refine loop_idx (fun i σ S' => ∃ y : Option D, σ = [some (.tup (D.int n :: r.map D.int)), some (.ref u), y] ∧ Le S S' ∧ S' u = some (.lst ((((r.length + 1 : Nat) : Int) :: (gI 99 n ++ ((r.take i).map fun e => gI 99 (zz e)).flatten)).map D.int)))
      (fun _ _ _ _ _ => trivial) (fun i x σ S' hx hp' N hN => ?_) (fun σ S' hp' => ?_) ⟨_, rfl, l1.trans (Le.new hu), by rw [up_same]; simp⟩
    · obtain ⟨y, rfl, l2, hu2⟩ := hp'
      rw [List.getElem?_map] at hx
      cases he : r[i]? with
      | none => rw [he] at hx; cases hx
      | some e =>
        rw [he] at hx; cases hx
        have et : r.take (i + 1) = r.take i ++ [e] := by rw [List.take_add_one, he]; rfl
        have hb := hre e (List.mem_of_getElem? he)
        have step : ∀ v, v = zz e → sp_groups_of [.int v] S' (fun d S1 => extD (D.ref u) [d] S1 fun x S => N [some (.tup (D.int n :: r.map D.int)), some (.ref u), some (.int e)] S) NoX := by
          rintro v rfl
          refine ⟨zz e, rfl, by unfold zz; split <;> omega, by unfold zz; split <;> omega, fun q2 hq2 => ?_⟩
          simp only [rVar, rC, rBin, rUn, rTst, rChn, rTru, rAnd, rOr, rNot, rAndV, rOrV, rNotV, rIf, rNil, rCons, rTup, rLst, rFn, rCall, rCallK, rSl, rPrt, rNoP, rMt, gNm, q_gN, q_gC, q_gTp, gSb, rNext, rSeq, rDrop, rRet, rRetN, rBrk, rCnt, rIfS, rSet, rPar, rFor, iSeq, iLst, iRg1, iRg2, iZp, iEn, iStrD, rLc, rYes, q_isi2, q_i2N, q_i2B, q_i2I, q_i2S, q_i2T, q_i2L, q_j2N, q_j2B, q_j2I, q_j2S, q_j2T, q_j2L, q_gt2, q_gtT, q_en, q_int2, q_strD, q_rev, q_ixo, q_ext2, q_extT, En.x, wipeD, start', List.getElem?_cons_zero, List.getElem?_cons_succ, List.set_cons_zero, List.set_cons_succ, List.map_cons, List.map_nil, List.length_cons, List.length_nil, List.cons_append, List.nil_append, List.replicate_succ, List.replicate_zero, id, q_asB, q_asI, q_add, q_addS, q_addT, q_addL, q_int, q_sub, q_mul, q_fdiv, q_mod, q_pow, q_neg, q_le, q_ge, q_gt, q_lt, q_ltT, q_isN, q_isB, q_isBi, q_isBs, q_isBn, q_isBt, q_isnt, n_non, n_bl, n_int, n_str, n_tup, n_ref, q_eq, q_eqS, q_eqB, q_ixT, q_ixK, q_ixL, q_ixS, q_slT, q_slL, q_slS, q_set, q_lenT, q_lenK, q_lenS, q_lenL, q_abs, q_intF, q_max, q_min, q_tupT, q_tupL, q_lstT, q_lstL, q_app, q_ext, q_joinL, q_stw, q_seq, q_lst, q_rng, q_rng2, q_zpT, q_zpL, q_truN, q_truB, q_truI, q_truT, q_truL, t_non, t_bl, t_int, t_str, t_tup, q_isiN, q_isiB, q_isiI, q_isiS, q_isiT, i_NoneType_int, i_NoneType_bool, i_NoneType_tuple, i_NoneType_list, i_NoneType_str, i_bool_int, i_bool_bool, i_bool_tuple, i_bool_list, i_bool_str, i_int_int, i_int_bool, i_int_tuple, i_int_list, i_int_str, i_str_int, i_str_bool, i_str_tuple, i_str_list, i_str_str, i_tuple_int, i_tuple_bool, i_tuple_tuple, i_tuple_list, i_tuple_str, i_list_int, i_list_bool, i_list_tuple, i_list_list, i_list_str, i_dict_int, i_dict_bool, i_dict_tuple, i_dict_list, i_dict_str, up_same, g_02, g_02', g_01, g_11, at_0, at_1, ix_0, ix_1, Option.some.injEq, HQ.lst.injEq, exists_eq_left', exists_eq_left, exists_and_left, exists_eq', exists_eq, decide_eq_true_eq, if_true, if_false, ite_true, ite_false, Bool.false_eq_true, reduceIte, reduceCtorEq, Bool.not_true, Bool.not_false, Nat.zero_add, Nat.reduceAdd, Nat.reduceSub, Nat.reduceLeDiff, Nat.reduceLT, Int.reduceLT, Int.reduceLE, Int.reduceEq, Int.reduceNe, Nat.reduceEqDiff, Int.reduceToNat, Int.reducePow, Int.reduceMul, Int.reduceAdd, Int.reduceSub, Int.reduceNeg, and_true, true_and, decide_true, decide_false]
          have hb1 := flat_len (k := 100) (fun e => gI 99 (zz e)) (fun e => gI_len) (r.take i)
          have hb2 := gI_len (k := 99) (w := n)
          have hb3 := gI_len (k := 99) (w := zz e)
          have hb4 : (r.take i).length ≤ 100 := by rw [List.length_take]; omega
          refine ⟨_, up_get hq2 hu2, ?_, hN _ _ ⟨_, rfl, ?_, ?_⟩⟩
          · simp only [List.length_map, List.length_cons, List.length_append]; omega
          · intro a o ha
            have hau : a ≠ u := fun z => by rw [z, hu0] at ha; cases ha
            rw [up_ne hau]
            exact up_get hq2 (l2 a o ha)
          · rw [up_same, et]; simp
        simp only [rVar, rC, rBin, rUn, rTst, rChn, rTru, rAnd, rOr, rNot, rAndV, rOrV, rNotV, rIf, rNil, rCons, rTup, rLst, rFn, rCall, rCallK, rSl, rPrt, rNoP, rMt, gNm, q_gN, q_gC, q_gTp, gSb, rNext, rSeq, rDrop, rRet, rRetN, rBrk, rCnt, rIfS, rSet, rPar, rFor, iSeq, iLst, iRg1, iRg2, iZp, iEn, iStrD, rLc, rYes, q_isi2, q_i2N, q_i2B, q_i2I, q_i2S, q_i2T, q_i2L, q_j2N, q_j2B, q_j2I, q_j2S, q_j2T, q_j2L, q_gt2, q_gtT, q_en, q_int2, q_strD, q_rev, q_ixo, q_ext2, q_extT, En.x, wipeD, start', List.getElem?_cons_zero, List.getElem?_cons_succ, List.set_cons_zero, List.set_cons_succ, List.map_cons, List.map_nil, List.length_cons, List.length_nil, List.cons_append, List.nil_append, List.replicate_succ, List.replicate_zero, id, q_asB, q_asI, q_add, q_addS, q_addT, q_addL, q_int, q_sub, q_mul, q_fdiv, q_mod, q_pow, q_neg, q_le, q_ge, q_gt, q_lt, q_ltT, q_isN, q_isB, q_isBi, q_isBs, q_isBn, q_isBt, q_isnt, n_non, n_bl, n_int, n_str, n_tup, n_ref, q_eq, q_eqS, q_eqB, q_ixT, q_ixK, q_ixL, q_ixS, q_slT, q_slL, q_slS, q_set, q_lenT, q_lenK, q_lenS, q_lenL, q_abs, q_intF, q_max, q_min, q_tupT, q_tupL, q_lstT, q_lstL, q_app, q_ext, q_joinL, q_stw, q_seq, q_lst, q_rng, q_rng2, q_zpT, q_zpL, q_truN, q_truB, q_truI, q_truT, q_truL, t_non, t_bl, t_int, t_str, t_tup, q_isiN, q_isiB, q_isiI, q_isiS, q_isiT, i_NoneType_int, i_NoneType_bool, i_NoneType_tuple, i_NoneType_list, i_NoneType_str, i_bool_int, i_bool_bool, i_bool_tuple, i_bool_list, i_bool_str, i_int_int, i_int_bool, i_int_tuple, i_int_list, i_int_str, i_str_int, i_str_bool, i_str_tuple, i_str_list, i_str_str, i_tuple_int, i_tuple_bool, i_tuple_tuple, i_tuple_list, i_tuple_str, i_list_int, i_list_bool, i_list_tuple, i_list_list, i_list_str, i_dict_int, i_dict_bool, i_dict_tuple, i_dict_list, i_dict_str, up_same, g_02, g_02', g_01, g_11, at_0, at_1, ix_0, ix_1, Option.some.injEq, HQ.lst.injEq, exists_eq_left', exists_eq_left, exists_and_left, exists_eq', exists_eq, decide_eq_true_eq, if_true, if_false, ite_true, ite_false, Bool.false_eq_true, reduceIte, reduceCtorEq, Bool.not_true, Bool.not_false, Nat.zero_add, Nat.reduceAdd, Nat.reduceSub, Nat.reduceLeDiff, Nat.reduceLT, Int.reduceLT, Int.reduceLE, Int.reduceEq, Int.reduceNe, Nat.reduceEqDiff, Int.reduceToNat, Int.reducePow, Int.reduceMul, Int.reduceAdd, Int.reduceSub, Int.reduceNeg, and_true, true_and, decide_true, decide_false]
        by_cases c : (0 : Int) ≤ e
        · simp only [c, rVar, rC, rBin, rUn, rTst, rChn, rTru, rAnd, rOr, rNot, rAndV, rOrV, rNotV, rIf, rNil, rCons, rTup, rLst, rFn, rCall, rCallK, rSl, rPrt, rNoP, rMt, gNm, q_gN, q_gC, q_gTp, gSb, rNext, rSeq, rDrop, rRet, rRetN, rBrk, rCnt, rIfS, rSet, rPar, rFor, iSeq, iLst, iRg1, iRg2, iZp, iEn, iStrD, rLc, rYes, q_isi2, q_i2N, q_i2B, q_i2I, q_i2S, q_i2T, q_i2L, q_j2N, q_j2B, q_j2I, q_j2S, q_j2T, q_j2L, q_gt2, q_gtT, q_en, q_int2, q_strD, q_rev, q_ixo, q_ext2, q_extT, En.x, wipeD, start', List.getElem?_cons_zero, List.getElem?_cons_succ, List.set_cons_zero, List.set_cons_succ, List.map_cons, List.map_nil, List.length_cons, List.length_nil, List.cons_append, List.nil_append, List.replicate_succ, List.replicate_zero, id, q_asB, q_asI, q_add, q_addS, q_addT, q_addL, q_int, q_sub, q_mul, q_fdiv, q_mod, q_pow, q_neg, q_le, q_ge, q_gt, q_lt, q_ltT, q_isN, q_isB, q_isBi, q_isBs, q_isBn, q_isBt, q_isnt, n_non, n_bl, n_int, n_str, n_tup, n_ref, q_eq, q_eqS, q_eqB, q_ixT, q_ixK, q_ixL, q_ixS, q_slT, q_slL, q_slS, q_set, q_lenT, q_lenK, q_lenS, q_lenL, q_abs, q_intF, q_max, q_min, q_tupT, q_tupL, q_lstT, q_lstL, q_app, q_ext, q_joinL, q_stw, q_seq, q_lst, q_rng, q_rng2, q_zpT, q_zpL, q_truN, q_truB, q_truI, q_truT, q_truL, t_non, t_bl, t_int, t_str, t_tup, q_isiN, q_isiB, q_isiI, q_isiS, q_isiT, i_NoneType_int, i_NoneType_bool, i_NoneType_tuple, i_NoneType_list, i_NoneType_str, i_bool_int, i_bool_bool, i_bool_tuple, i_bool_list, i_bool_str, i_int_int, i_int_bool, i_int_tuple, i_int_list, i_int_str, i_str_int, i_str_bool, i_str_tuple, i_str_list, i_str_str, i_tuple_int, i_tuple_bool, i_tuple_tuple, i_tuple_list, i_tuple_str, i_list_int, i_list_bool, i_list_tuple, i_list_list, i_list_str, i_dict_int, i_dict_bool, i_dict_tuple, i_dict_list, i_dict_str, up_same, g_02, g_02', g_01, g_11, at_0, at_1, ix_0, ix_1, Option.some.injEq, HQ.lst.injEq, exists_eq_left', exists_eq_left, exists_and_left, exists_eq', exists_eq, decide_eq_true_eq, if_true, if_false, ite_true, ite_false, Bool.false_eq_true, reduceIte, reduceCtorEq, Bool.not_true, Bool.not_false, Nat.zero_add, Nat.reduceAdd, Nat.reduceSub, Nat.reduceLeDiff, Nat.reduceLT, Int.reduceLT, Int.reduceLE, Int.reduceEq, Int.reduceNe, Nat.reduceEqDiff, Int.reduceToNat, Int.reducePow, Int.reduceMul, Int.reduceAdd, Int.reduceSub, Int.reduceNeg, and_true, true_and, decide_true, decide_false]
          exact ⟨t_lst hu2, cm_l (by decide) (by decide), step _ (if_pos c).symm⟩
        · simp only [c, rVar, rC, rBin, rUn, rTst, rChn, rTru, rAnd, rOr, rNot, rAndV, rOrV, rNotV, rIf, rNil, rCons, rTup, rLst, rFn, rCall, rCallK, rSl, rPrt, rNoP, rMt, gNm, q_gN, q_gC, q_gTp, gSb, rNext, rSeq, rDrop, rRet, rRetN, rBrk, rCnt, rIfS, rSet, rPar, rFor, iSeq, iLst, iRg1, iRg2, iZp, iEn, iStrD, rLc, rYes, q_isi2, q_i2N, q_i2B, q_i2I, q_i2S, q_i2T, q_i2L, q_j2N, q_j2B, q_j2I, q_j2S, q_j2T, q_j2L, q_gt2, q_gtT, q_en, q_int2, q_strD, q_rev, q_ixo, q_ext2, q_extT, En.x, wipeD, start', List.getElem?_cons_zero, List.getElem?_cons_succ, List.set_cons_zero, List.set_cons_succ, List.map_cons, List.map_nil, List.length_cons, List.length_nil, List.cons_append, List.nil_append, List.replicate_succ, List.replicate_zero, id, q_asB, q_asI, q_add, q_addS, q_addT, q_addL, q_int, q_sub, q_mul, q_fdiv, q_mod, q_pow, q_neg, q_le, q_ge, q_gt, q_lt, q_ltT, q_isN, q_isB, q_isBi, q_isBs, q_isBn, q_isBt, q_isnt, n_non, n_bl, n_int, n_str, n_tup, n_ref, q_eq, q_eqS, q_eqB, q_ixT, q_ixK, q_ixL, q_ixS, q_slT, q_slL, q_slS, q_set, q_lenT, q_lenK, q_lenS, q_lenL, q_abs, q_intF, q_max, q_min, q_tupT, q_tupL, q_lstT, q_lstL, q_app, q_ext, q_joinL, q_stw, q_seq, q_lst, q_rng, q_rng2, q_zpT, q_zpL, q_truN, q_truB, q_truI, q_truT, q_truL, t_non, t_bl, t_int, t_str, t_tup, q_isiN, q_isiB, q_isiI, q_isiS, q_isiT, i_NoneType_int, i_NoneType_bool, i_NoneType_tuple, i_NoneType_list, i_NoneType_str, i_bool_int, i_bool_bool, i_bool_tuple, i_bool_list, i_bool_str, i_int_int, i_int_bool, i_int_tuple, i_int_list, i_int_str, i_str_int, i_str_bool, i_str_tuple, i_str_list, i_str_str, i_tuple_int, i_tuple_bool, i_tuple_tuple, i_tuple_list, i_tuple_str, i_list_int, i_list_bool, i_list_tuple, i_list_list, i_list_str, i_dict_int, i_dict_bool, i_dict_tuple, i_dict_list, i_dict_str, up_same, g_02, g_02', g_01, g_11, at_0, at_1, ix_0, ix_1, Option.some.injEq, HQ.lst.injEq, exists_eq_left', exists_eq_left, exists_and_left, exists_eq', exists_eq, decide_eq_true_eq, if_true, if_false, ite_true, ite_false, Bool.false_eq_true, reduceIte, reduceCtorEq, Bool.not_true, Bool.not_false, Nat.zero_add, Nat.reduceAdd, Nat.reduceSub, Nat.reduceLeDiff, Nat.reduceLT, Int.reduceLT, Int.reduceLE, Int.reduceEq, Int.reduceNe, Nat.reduceEqDiff, Int.reduceToNat, Int.reducePow, Int.reduceMul, Int.reduceAdd, Int.reduceSub, Int.reduceNeg, and_true, true_and, decide_true, decide_false]
          exact ⟨t_lst hu2, cm_l (by decide) (by decide), step _ (if_neg c).symm⟩
    · obtain ⟨y, rfl, l2, hu2⟩ := hp'
      rw [List.length_map, List.take_length] at hu2
      simp only [rVar, rC, rBin, rUn, rTst, rChn, rTru, rAnd, rOr, rNot, rAndV, rOrV, rNotV, rIf, rNil, rCons, rTup, rLst, rFn, rCall, rCallK, rSl, rPrt, rNoP, rMt, gNm, q_gN, q_gC, q_gTp, gSb, rNext, rSeq, rDrop, rRet, rRetN, rBrk, rCnt, rIfS, rSet, rPar, rFor, iSeq, iLst, iRg1, iRg2, iZp, iEn, iStrD, rLc, rYes, q_isi2, q_i2N, q_i2B, q_i2I, q_i2S, q_i2T, q_i2L, q_j2N, q_j2B, q_j2I, q_j2S, q_j2T, q_j2L, q_gt2, q_gtT, q_en, q_int2, q_strD, q_rev, q_ixo, q_ext2, q_extT, En.x, wipeD, start', List.getElem?_cons_zero, List.getElem?_cons_succ, List.set_cons_zero, List.set_cons_succ, List.map_cons, List.map_nil, List.length_cons, List.length_nil, List.cons_append, List.nil_append, List.replicate_succ, List.replicate_zero, id, q_asB, q_asI, q_add, q_addS, q_addT, q_addL, q_int, q_sub, q_mul, q_fdiv, q_mod, q_pow, q_neg, q_le, q_ge, q_gt, q_lt, q_ltT, q_isN, q_isB, q_isBi, q_isBs, q_isBn, q_isBt, q_isnt, n_non, n_bl, n_int, n_str, n_tup, n_ref, q_eq, q_eqS, q_eqB, q_ixT, q_ixK, q_ixL, q_ixS, q_slT, q_slL, q_slS, q_set, q_lenT, q_lenK, q_lenS, q_lenL, q_abs, q_intF, q_max, q_min, q_tupT, q_tupL, q_lstT, q_lstL, q_app, q_ext, q_joinL, q_stw, q_seq, q_lst, q_rng, q_rng2, q_zpT, q_zpL, q_truN, q_truB, q_truI, q_truT, q_truL, t_non, t_bl, t_int, t_str, t_tup, q_isiN, q_isiB, q_isiI, q_isiS, q_isiT, i_NoneType_int, i_NoneType_bool, i_NoneType_tuple, i_NoneType_list, i_NoneType_str, i_bool_int, i_bool_bool, i_bool_tuple, i_bool_list, i_bool_str, i_int_int, i_int_bool, i_int_tuple, i_int_list, i_int_str, i_str_int, i_str_bool, i_str_tuple, i_str_list, i_str_str, i_tuple_int, i_tuple_bool, i_tuple_tuple, i_tuple_list, i_tuple_str, i_list_int, i_list_bool, i_list_tuple, i_list_list, i_list_str, i_dict_int, i_dict_bool, i_dict_tuple, i_dict_list, i_dict_str, up_same, g_02, g_02', g_01, g_11, at_0, at_1, ix_0, ix_1, Option.some.injEq, HQ.lst.injEq, exists_eq_left', exists_eq_left, exists_and_left, exists_eq', exists_eq, decide_eq_true_eq, if_true, if_false, ite_true, ite_false, Bool.false_eq_true, reduceIte, reduceCtorEq, Bool.not_true, Bool.not_false, Nat.zero_add, Nat.reduceAdd, Nat.reduceSub, Nat.reduceLeDiff, Nat.reduceLT, Int.reduceLT, Int.reduceLE, Int.reduceEq, Int.reduceNe, Nat.reduceEqDiff, Int.reduceToNat, Int.reducePow, Int.reduceMul, Int.reduceAdd, Int.reduceSub, Int.reduceNeg, and_true, true_and, decide_true, decide_false]
      exact k u _ l2 hu0 hu2

def sp_encode_letter : Sq := fun ds S Q _ => ∃ l, ds = [letD l] ∧ LtOk l ∧ ∀ S', Le S S' → Q (.tup ((formL l).map D.int)) S'
theorem ln_encode_letter : ∀ ds S Q E, sp_encode_letter ds S Q E → ds.length = 1 := by rintro _ _ _ _ ⟨b, rfl, _⟩; rfl
theorem nx_encode_letter : ∀ ds S Q E, sp_encode_letter ds S Q E → sp_encode_letter ds S Q NoX := fun _ _ _ _ h => h
theorem numO_len {o : Option (List Int)} (h : ∀ ns, o = some ns → NuOk ns) : (numO o).length ≤ 1600 := by
  cases o with
  | none => decide
  | some ns =>
    obtain ⟨n, r, rfl, _, _, hr, _⟩ := h ns rfl
    unfold numO
    have h1 := gI_len (k := 99) (w := n)
    have h2 := flat_len (k := 100) (fun e => gI 99 (zz e)) (fun e => gI_len) r
    simp only [List.length_cons, List.length_append]; omega
theorem at_2 {α : Type} {x y z : α} {r : List α} : atI (x :: y :: z :: r) 2 = some z := atI_nat (j := 2) rfl
theorem at_3 {α : Type} {x y z u : α} {r : List α} : atI (x :: y :: z :: u :: r) 3 = some u := atI_nat (j := 3) rfl

def rd_encode_letter : RSt :=
 (rSeq (rSet (rBin ixD (rVar 0) (rC (.int 0))) (gNm 1))
 (rSeq (rIfS (rTst (rBin (eqD id) (rVar 1) (rC (.str (Str.ofString "mail")))))
 (rSeq (rSet (rBin ixD (rVar 0) (rC (.int 2))) (gNm 3))
 (rRet (rBin addD (rTup (rCons (rC (.int 2)) (rCons (rCall sp_stretch_octet (rCons (rBin ixD (rVar 0) (rC (.int 1))) rNil)) (rCons (rFn lenD (rCons (rVar 3) rNil)) rNil)))) (rVar 3))))
 rNext)
 (rSeq (rSet (rBin addD (rLst (rCons (rCall sp_stretch_octet (rCons (rBin ixD (rVar 0) (rC (.int 1))) rNil)) rNil)) (rCall sp_groups_of (rCons (rBin ixD (rVar 0) (rC (.int 2))) rNil))) (gNm 2))
 (rSeq (rIfS (rTst (rBin (eqD id) (rVar 1) (rC (.str (Str.ofString "ack")))))
 (rRet (rBin addD (rTup (rCons (rC (.int 1)) rNil)) (rFn tupF (rCons (rVar 2) rNil))))
 rNext)
 (rRet (rBin addD (rTup (rCons (rC (.int 0)) rNil)) (rFn tupF (rCons (rBin addD (rVar 2) (rCall sp_number_octets (rCons (rBin ixD (rVar 0) (rC (.int 3))) rNil))) rNil))))))))

theorem pu_encode_letter : ∀ ds S Q, sp_encode_letter ds S Q NoX → rd_encode_letter { nx := fun _ S => Q .non S, rt := Q } (start' 4 ds) S := by

  rintro _ S Q ⟨l, rfl, hl, k⟩
  unfold rd_encode_letter
  have n1 : (Str.ofString "ack" = Str.ofString "mail") = False := by decide +kernel
  have n2 : (Str.ofString "report" = Str.ofString "mail") = False := by decide +kernel
  have n3 : (Str.ofString "report" = Str.ofString "ack") = False := by decide +kernel
  cases l with
  | mail z b =>
    simp only [rVar, rC, rBin, rUn, rTst, rChn, rTru, rAnd, rOr, rNot, rAndV, rOrV, rNotV, rIf, rNil, rCons, rTup, rLst, rFn, rCall, rCallK, rSl, rPrt, rNoP, rMt, gNm, q_gN, q_gC, q_gTp, gSb, rNext, rSeq, rDrop, rRet, rRetN, rBrk, rCnt, rIfS, rSet, rPar, rFor, iSeq, iLst, iRg1, iRg2, iZp, iEn, iStrD, rLc, rYes, q_isi2, q_i2N, q_i2B, q_i2I, q_i2S, q_i2T, q_i2L, q_j2N, q_j2B, q_j2I, q_j2S, q_j2T, q_j2L, q_gt2, q_gtT, q_en, q_int2, q_strD, q_rev, q_ixo, q_ext2, q_extT, En.x, wipeD, start', List.getElem?_cons_zero, List.getElem?_cons_succ, List.set_cons_zero, List.set_cons_succ, List.map_cons, List.map_nil, List.length_cons, List.length_nil, List.cons_append, List.nil_append, List.replicate_succ, List.replicate_zero, id, q_asB, q_asI, q_add, q_addS, q_addT, q_addL, q_int, q_sub, q_mul, q_fdiv, q_mod, q_pow, q_neg, q_le, q_ge, q_gt, q_lt, q_ltT, q_isN, q_isB, q_isBi, q_isBs, q_isBn, q_isBt, q_isnt, n_non, n_bl, n_int, n_str, n_tup, n_ref, q_eq, q_eqS, q_eqB, q_ixT, q_ixK, q_ixL, q_ixS, q_slT, q_slL, q_slS, q_set, q_lenT, q_lenK, q_lenS, q_lenL, q_abs, q_intF, q_max, q_min, q_tupT, q_tupL, q_lstT, q_lstL, q_app, q_ext, q_joinL, q_stw, q_seq, q_lst, q_rng, q_rng2, q_zpT, q_zpL, q_truN, q_truB, q_truI, q_truT, q_truL, t_non, t_bl, t_int, t_str, t_tup, q_isiN, q_isiB, q_isiI, q_isiS, q_isiT, i_NoneType_int, i_NoneType_bool, i_NoneType_tuple, i_NoneType_list, i_NoneType_str, i_bool_int, i_bool_bool, i_bool_tuple, i_bool_list, i_bool_str, i_int_int, i_int_bool, i_int_tuple, i_int_list, i_int_str, i_str_int, i_str_bool, i_str_tuple, i_str_list, i_str_str, i_tuple_int, i_tuple_bool, i_tuple_tuple, i_tuple_list, i_tuple_str, i_list_int, i_list_bool, i_list_tuple, i_list_list, i_list_str, i_dict_int, i_dict_bool, i_dict_tuple, i_dict_list, i_dict_str, up_same, g_02, g_02', g_01, g_11, at_0, at_1, ix_0, ix_1, Option.some.injEq, HQ.lst.injEq, exists_eq_left', exists_eq_left, exists_and_left, exists_eq', exists_eq, decide_eq_true_eq, if_true, if_false, ite_true, ite_false, Bool.false_eq_true, reduceIte, reduceCtorEq, Bool.not_true, Bool.not_false, Nat.zero_add, Nat.reduceAdd, Nat.reduceSub, Nat.reduceLeDiff, Nat.reduceLT, Int.reduceLT, Int.reduceLE, Int.reduceEq, Int.reduceNe, Nat.reduceEqDiff, Int.reduceToNat, Int.reducePow, Int.reduceMul, Int.reduceAdd, Int.reduceSub, Int.reduceNeg, and_true, true_and, decide_true, decide_false, letD, at_2]
    refine ⟨z, rfl, hl.1, ?_⟩
    have := hl.2
    simp only [rVar, rC, rBin, rUn, rTst, rChn, rTru, rAnd, rOr, rNot, rAndV, rOrV, rNotV, rIf, rNil, rCons, rTup, rLst, rFn, rCall, rCallK, rSl, rPrt, rNoP, rMt, gNm, q_gN, q_gC, q_gTp, gSb, rNext, rSeq, rDrop, rRet, rRetN, rBrk, rCnt, rIfS, rSet, rPar, rFor, iSeq, iLst, iRg1, iRg2, iZp, iEn, iStrD, rLc, rYes, q_isi2, q_i2N, q_i2B, q_i2I, q_i2S, q_i2T, q_i2L, q_j2N, q_j2B, q_j2I, q_j2S, q_j2T, q_j2L, q_gt2, q_gtT, q_en, q_int2, q_strD, q_rev, q_ixo, q_ext2, q_extT, En.x, wipeD, start', List.getElem?_cons_zero, List.getElem?_cons_succ, List.set_cons_zero, List.set_cons_succ, List.map_cons, List.map_nil, List.length_cons, List.length_nil, List.cons_append, List.nil_append, List.replicate_succ, List.replicate_zero, id, q_asB, q_asI, q_add, q_addS, q_addT, q_addL, q_int, q_sub, q_mul, q_fdiv, q_mod, q_pow, q_neg, q_le, q_ge, q_gt, q_lt, q_ltT, q_isN, q_isB, q_isBi, q_isBs, q_isBn, q_isBt, q_isnt, n_non, n_bl, n_int, n_str, n_tup, n_ref, q_eq, q_eqS, q_eqB, q_ixT, q_ixK, q_ixL, q_ixS, q_slT, q_slL, q_slS, q_set, q_lenT, q_lenK, q_lenS, q_lenL, q_abs, q_intF, q_max, q_min, q_tupT, q_tupL, q_lstT, q_lstL, q_app, q_ext, q_joinL, q_stw, q_seq, q_lst, q_rng, q_rng2, q_zpT, q_zpL, q_truN, q_truB, q_truI, q_truT, q_truL, t_non, t_bl, t_int, t_str, t_tup, q_isiN, q_isiB, q_isiI, q_isiS, q_isiT, i_NoneType_int, i_NoneType_bool, i_NoneType_tuple, i_NoneType_list, i_NoneType_str, i_bool_int, i_bool_bool, i_bool_tuple, i_bool_list, i_bool_str, i_int_int, i_int_bool, i_int_tuple, i_int_list, i_int_str, i_str_int, i_str_bool, i_str_tuple, i_str_list, i_str_str, i_tuple_int, i_tuple_bool, i_tuple_tuple, i_tuple_list, i_tuple_str, i_list_int, i_list_bool, i_list_tuple, i_list_list, i_list_str, i_dict_int, i_dict_bool, i_dict_tuple, i_dict_list, i_dict_str, up_same, g_02, g_02', g_01, g_11, at_0, at_1, ix_0, ix_1, Option.some.injEq, HQ.lst.injEq, exists_eq_left', exists_eq_left, exists_and_left, exists_eq', exists_eq, decide_eq_true_eq, if_true, if_false, ite_true, ite_false, Bool.false_eq_true, reduceIte, reduceCtorEq, Bool.not_true, Bool.not_false, Nat.zero_add, Nat.reduceAdd, Nat.reduceSub, Nat.reduceLeDiff, Nat.reduceLT, Int.reduceLT, Int.reduceLE, Int.reduceEq, Int.reduceNe, Nat.reduceEqDiff, Int.reduceToNat, Int.reducePow, Int.reduceMul, Int.reduceAdd, Int.reduceSub, Int.reduceNeg, and_true, true_and, decide_true, decide_false, List.length_map]
    exact ⟨by omega, k S Le.refl⟩
  | ack z s =>
    obtain ⟨hz, h0, h1⟩ := hl
    simp only [rVar, rC, rBin, rUn, rTst, rChn, rTru, rAnd, rOr, rNot, rAndV, rOrV, rNotV, rIf, rNil, rCons, rTup, rLst, rFn, rCall, rCallK, rSl, rPrt, rNoP, rMt, gNm, q_gN, q_gC, q_gTp, gSb, rNext, rSeq, rDrop, rRet, rRetN, rBrk, rCnt, rIfS, rSet, rPar, rFor, iSeq, iLst, iRg1, iRg2, iZp, iEn, iStrD, rLc, rYes, q_isi2, q_i2N, q_i2B, q_i2I, q_i2S, q_i2T, q_i2L, q_j2N, q_j2B, q_j2I, q_j2S, q_j2T, q_j2L, q_gt2, q_gtT, q_en, q_int2, q_strD, q_rev, q_ixo, q_ext2, q_extT, En.x, wipeD, start', List.getElem?_cons_zero, List.getElem?_cons_succ, List.set_cons_zero, List.set_cons_succ, List.map_cons, List.map_nil, List.length_cons, List.length_nil, List.cons_append, List.nil_append, List.replicate_succ, List.replicate_zero, id, q_asB, q_asI, q_add, q_addS, q_addT, q_addL, q_int, q_sub, q_mul, q_fdiv, q_mod, q_pow, q_neg, q_le, q_ge, q_gt, q_lt, q_ltT, q_isN, q_isB, q_isBi, q_isBs, q_isBn, q_isBt, q_isnt, n_non, n_bl, n_int, n_str, n_tup, n_ref, q_eq, q_eqS, q_eqB, q_ixT, q_ixK, q_ixL, q_ixS, q_slT, q_slL, q_slS, q_set, q_lenT, q_lenK, q_lenS, q_lenL, q_abs, q_intF, q_max, q_min, q_tupT, q_tupL, q_lstT, q_lstL, q_app, q_ext, q_joinL, q_stw, q_seq, q_lst, q_rng, q_rng2, q_zpT, q_zpL, q_truN, q_truB, q_truI, q_truT, q_truL, t_non, t_bl, t_int, t_str, t_tup, q_isiN, q_isiB, q_isiI, q_isiS, q_isiT, i_NoneType_int, i_NoneType_bool, i_NoneType_tuple, i_NoneType_list, i_NoneType_str, i_bool_int, i_bool_bool, i_bool_tuple, i_bool_list, i_bool_str, i_int_int, i_int_bool, i_int_tuple, i_int_list, i_int_str, i_str_int, i_str_bool, i_str_tuple, i_str_list, i_str_str, i_tuple_int, i_tuple_bool, i_tuple_tuple, i_tuple_list, i_tuple_str, i_list_int, i_list_bool, i_list_tuple, i_list_list, i_list_str, i_dict_int, i_dict_bool, i_dict_tuple, i_dict_list, i_dict_str, up_same, g_02, g_02', g_01, g_11, at_0, at_1, ix_0, ix_1, Option.some.injEq, HQ.lst.injEq, exists_eq_left', exists_eq_left, exists_and_left, exists_eq', exists_eq, decide_eq_true_eq, if_true, if_false, ite_true, ite_false, Bool.false_eq_true, reduceIte, reduceCtorEq, Bool.not_true, Bool.not_false, Nat.zero_add, Nat.reduceAdd, Nat.reduceSub, Nat.reduceLeDiff, Nat.reduceLT, Int.reduceLT, Int.reduceLE, Int.reduceEq, Int.reduceNe, Nat.reduceEqDiff, Int.reduceToNat, Int.reducePow, Int.reduceMul, Int.reduceAdd, Int.reduceSub, Int.reduceNeg, and_true, true_and, decide_true, decide_false, letD, at_2, n1]
    refine ⟨z, rfl, hz, ?_⟩
    simp only [rVar, rC, rBin, rUn, rTst, rChn, rTru, rAnd, rOr, rNot, rAndV, rOrV, rNotV, rIf, rNil, rCons, rTup, rLst, rFn, rCall, rCallK, rSl, rPrt, rNoP, rMt, gNm, q_gN, q_gC, q_gTp, gSb, rNext, rSeq, rDrop, rRet, rRetN, rBrk, rCnt, rIfS, rSet, rPar, rFor, iSeq, iLst, iRg1, iRg2, iZp, iEn, iStrD, rLc, rYes, q_isi2, q_i2N, q_i2B, q_i2I, q_i2S, q_i2T, q_i2L, q_j2N, q_j2B, q_j2I, q_j2S, q_j2T, q_j2L, q_gt2, q_gtT, q_en, q_int2, q_strD, q_rev, q_ixo, q_ext2, q_extT, En.x, wipeD, start', List.getElem?_cons_zero, List.getElem?_cons_succ, List.set_cons_zero, List.set_cons_succ, List.map_cons, List.map_nil, List.length_cons, List.length_nil, List.cons_append, List.nil_append, List.replicate_succ, List.replicate_zero, id, q_asB, q_asI, q_add, q_addS, q_addT, q_addL, q_int, q_sub, q_mul, q_fdiv, q_mod, q_pow, q_neg, q_le, q_ge, q_gt, q_lt, q_ltT, q_isN, q_isB, q_isBi, q_isBs, q_isBn, q_isBt, q_isnt, n_non, n_bl, n_int, n_str, n_tup, n_ref, q_eq, q_eqS, q_eqB, q_ixT, q_ixK, q_ixL, q_ixS, q_slT, q_slL, q_slS, q_set, q_lenT, q_lenK, q_lenS, q_lenL, q_abs, q_intF, q_max, q_min, q_tupT, q_tupL, q_lstT, q_lstL, q_app, q_ext, q_joinL, q_stw, q_seq, q_lst, q_rng, q_rng2, q_zpT, q_zpL, q_truN, q_truB, q_truI, q_truT, q_truL, t_non, t_bl, t_int, t_str, t_tup, q_isiN, q_isiB, q_isiI, q_isiS, q_isiT, i_NoneType_int, i_NoneType_bool, i_NoneType_tuple, i_NoneType_list, i_NoneType_str, i_bool_int, i_bool_bool, i_bool_tuple, i_bool_list, i_bool_str, i_int_int, i_int_bool, i_int_tuple, i_int_list, i_int_str, i_str_int, i_str_bool, i_str_tuple, i_str_list, i_str_str, i_tuple_int, i_tuple_bool, i_tuple_tuple, i_tuple_list, i_tuple_str, i_list_int, i_list_bool, i_list_tuple, i_list_list, i_list_str, i_dict_int, i_dict_bool, i_dict_tuple, i_dict_list, i_dict_str, up_same, g_02, g_02', g_01, g_11, at_0, at_1, ix_0, ix_1, Option.some.injEq, HQ.lst.injEq, exists_eq_left', exists_eq_left, exists_and_left, exists_eq', exists_eq, decide_eq_true_eq, if_true, if_false, ite_true, ite_false, Bool.false_eq_true, reduceIte, reduceCtorEq, Bool.not_true, Bool.not_false, Nat.zero_add, Nat.reduceAdd, Nat.reduceSub, Nat.reduceLeDiff, Nat.reduceLT, Int.reduceLT, Int.reduceLE, Int.reduceEq, Int.reduceNe, Nat.reduceEqDiff, Int.reduceToNat, Int.reducePow, Int.reduceMul, Int.reduceAdd, Int.reduceSub, Int.reduceNeg, and_true, true_and, decide_true, decide_false]
    intro p hp
    refine ⟨s, rfl, h0, h1, fun q hq => ?_⟩
    simp only [rVar, rC, rBin, rUn, rTst, rChn, rTru, rAnd, rOr, rNot, rAndV, rOrV, rNotV, rIf, rNil, rCons, rTup, rLst, rFn, rCall, rCallK, rSl, rPrt, rNoP, rMt, gNm, q_gN, q_gC, q_gTp, gSb, rNext, rSeq, rDrop, rRet, rRetN, rBrk, rCnt, rIfS, rSet, rPar, rFor, iSeq, iLst, iRg1, iRg2, iZp, iEn, iStrD, rLc, rYes, q_isi2, q_i2N, q_i2B, q_i2I, q_i2S, q_i2T, q_i2L, q_j2N, q_j2B, q_j2I, q_j2S, q_j2T, q_j2L, q_gt2, q_gtT, q_en, q_int2, q_strD, q_rev, q_ixo, q_ext2, q_extT, En.x, wipeD, start', List.getElem?_cons_zero, List.getElem?_cons_succ, List.set_cons_zero, List.set_cons_succ, List.map_cons, List.map_nil, List.length_cons, List.length_nil, List.cons_append, List.nil_append, List.replicate_succ, List.replicate_zero, id, q_asB, q_asI, q_add, q_addS, q_addT, q_addL, q_int, q_sub, q_mul, q_fdiv, q_mod, q_pow, q_neg, q_le, q_ge, q_gt, q_lt, q_ltT, q_isN, q_isB, q_isBi, q_isBs, q_isBn, q_isBt, q_isnt, n_non, n_bl, n_int, n_str, n_tup, n_ref, q_eq, q_eqS, q_eqB, q_ixT, q_ixK, q_ixL, q_ixS, q_slT, q_slL, q_slS, q_set, q_lenT, q_lenK, q_lenS, q_lenL, q_abs, q_intF, q_max, q_min, q_tupT, q_tupL, q_lstT, q_lstL, q_app, q_ext, q_joinL, q_stw, q_seq, q_lst, q_rng, q_rng2, q_zpT, q_zpL, q_truN, q_truB, q_truI, q_truT, q_truL, t_non, t_bl, t_int, t_str, t_tup, q_isiN, q_isiB, q_isiI, q_isiS, q_isiT, i_NoneType_int, i_NoneType_bool, i_NoneType_tuple, i_NoneType_list, i_NoneType_str, i_bool_int, i_bool_bool, i_bool_tuple, i_bool_list, i_bool_str, i_int_int, i_int_bool, i_int_tuple, i_int_list, i_int_str, i_str_int, i_str_bool, i_str_tuple, i_str_list, i_str_str, i_tuple_int, i_tuple_bool, i_tuple_tuple, i_tuple_list, i_tuple_str, i_list_int, i_list_bool, i_list_tuple, i_list_list, i_list_str, i_dict_int, i_dict_bool, i_dict_tuple, i_dict_list, i_dict_str, up_same, g_02, g_02', g_01, g_11, at_0, at_1, ix_0, ix_1, Option.some.injEq, HQ.lst.injEq, exists_eq_left', exists_eq_left, exists_and_left, exists_eq', exists_eq, decide_eq_true_eq, if_true, if_false, ite_true, ite_false, Bool.false_eq_true, reduceIte, reduceCtorEq, Bool.not_true, Bool.not_false, Nat.zero_add, Nat.reduceAdd, Nat.reduceSub, Nat.reduceLeDiff, Nat.reduceLT, Int.reduceLT, Int.reduceLE, Int.reduceEq, Int.reduceNe, Nat.reduceEqDiff, Int.reduceToNat, Int.reducePow, Int.reduceMul, Int.reduceAdd, Int.reduceSub, Int.reduceNeg, and_true, true_and, decide_true, decide_false]
    have := gI_len (k := 99) (w := s)
    refine ⟨_, up_get hq up_same, by simp; omega, fun u hu => ?_⟩
    simp only [rVar, rC, rBin, rUn, rTst, rChn, rTru, rAnd, rOr, rNot, rAndV, rOrV, rNotV, rIf, rNil, rCons, rTup, rLst, rFn, rCall, rCallK, rSl, rPrt, rNoP, rMt, gNm, q_gN, q_gC, q_gTp, gSb, rNext, rSeq, rDrop, rRet, rRetN, rBrk, rCnt, rIfS, rSet, rPar, rFor, iSeq, iLst, iRg1, iRg2, iZp, iEn, iStrD, rLc, rYes, q_isi2, q_i2N, q_i2B, q_i2I, q_i2S, q_i2T, q_i2L, q_j2N, q_j2B, q_j2I, q_j2S, q_j2T, q_j2L, q_gt2, q_gtT, q_en, q_int2, q_strD, q_rev, q_ixo, q_ext2, q_extT, En.x, wipeD, start', List.getElem?_cons_zero, List.getElem?_cons_succ, List.set_cons_zero, List.set_cons_succ, List.map_cons, List.map_nil, List.length_cons, List.length_nil, List.cons_append, List.nil_append, List.replicate_succ, List.replicate_zero, id, q_asB, q_asI, q_add, q_addS, q_addT, q_addL, q_int, q_sub, q_mul, q_fdiv, q_mod, q_pow, q_neg, q_le, q_ge, q_gt, q_lt, q_ltT, q_isN, q_isB, q_isBi, q_isBs, q_isBn, q_isBt, q_isnt, n_non, n_bl, n_int, n_str, n_tup, n_ref, q_eq, q_eqS, q_eqB, q_ixT, q_ixK, q_ixL, q_ixS, q_slT, q_slL, q_slS, q_set, q_lenT, q_lenK, q_lenS, q_lenL, q_abs, q_intF, q_max, q_min, q_tupT, q_tupL, q_lstT, q_lstL, q_app, q_ext, q_joinL, q_stw, q_seq, q_lst, q_rng, q_rng2, q_zpT, q_zpL, q_truN, q_truB, q_truI, q_truT, q_truL, t_non, t_bl, t_int, t_str, t_tup, q_isiN, q_isiB, q_isiI, q_isiS, q_isiT, i_NoneType_int, i_NoneType_bool, i_NoneType_tuple, i_NoneType_list, i_NoneType_str, i_bool_int, i_bool_bool, i_bool_tuple, i_bool_list, i_bool_str, i_int_int, i_int_bool, i_int_tuple, i_int_list, i_int_str, i_str_int, i_str_bool, i_str_tuple, i_str_list, i_str_str, i_tuple_int, i_tuple_bool, i_tuple_tuple, i_tuple_list, i_tuple_str, i_list_int, i_list_bool, i_list_tuple, i_list_list, i_list_str, i_dict_int, i_dict_bool, i_dict_tuple, i_dict_list, i_dict_str, up_same, g_02, g_02', g_01, g_11, at_0, at_1, ix_0, ix_1, Option.some.injEq, HQ.lst.injEq, exists_eq_left', exists_eq_left, exists_and_left, exists_eq', exists_eq, decide_eq_true_eq, if_true, if_false, ite_true, ite_false, Bool.false_eq_true, reduceIte, reduceCtorEq, Bool.not_true, Bool.not_false, Nat.zero_add, Nat.reduceAdd, Nat.reduceSub, Nat.reduceLeDiff, Nat.reduceLT, Int.reduceLT, Int.reduceLE, Int.reduceEq, Int.reduceNe, Nat.reduceEqDiff, Int.reduceToNat, Int.reducePow, Int.reduceMul, Int.reduceAdd, Int.reduceSub, Int.reduceNeg, and_true, true_and, decide_true, decide_false]
    refine ⟨by simp; omega, ?_⟩
    exact k _ (((Le.new hp).trans (Le.new hq)).trans (Le.new hu))
  | rep z s o =>
    obtain ⟨hz, h0, h1, ho⟩ := hl
    simp only [rVar, rC, rBin, rUn, rTst, rChn, rTru, rAnd, rOr, rNot, rAndV, rOrV, rNotV, rIf, rNil, rCons, rTup, rLst, rFn, rCall, rCallK, rSl, rPrt, rNoP, rMt, gNm, q_gN, q_gC, q_gTp, gSb, rNext, rSeq, rDrop, rRet, rRetN, rBrk, rCnt, rIfS, rSet, rPar, rFor, iSeq, iLst, iRg1, iRg2, iZp, iEn, iStrD, rLc, rYes, q_isi2, q_i2N, q_i2B, q_i2I, q_i2S, q_i2T, q_i2L, q_j2N, q_j2B, q_j2I, q_j2S, q_j2T, q_j2L, q_gt2, q_gtT, q_en, q_int2, q_strD, q_rev, q_ixo, q_ext2, q_extT, En.x, wipeD, start', List.getElem?_cons_zero, List.getElem?_cons_succ, List.set_cons_zero, List.set_cons_succ, List.map_cons, List.map_nil, List.length_cons, List.length_nil, List.cons_append, List.nil_append, List.replicate_succ, List.replicate_zero, id, q_asB, q_asI, q_add, q_addS, q_addT, q_addL, q_int, q_sub, q_mul, q_fdiv, q_mod, q_pow, q_neg, q_le, q_ge, q_gt, q_lt, q_ltT, q_isN, q_isB, q_isBi, q_isBs, q_isBn, q_isBt, q_isnt, n_non, n_bl, n_int, n_str, n_tup, n_ref, q_eq, q_eqS, q_eqB, q_ixT, q_ixK, q_ixL, q_ixS, q_slT, q_slL, q_slS, q_set, q_lenT, q_lenK, q_lenS, q_lenL, q_abs, q_intF, q_max, q_min, q_tupT, q_tupL, q_lstT, q_lstL, q_app, q_ext, q_joinL, q_stw, q_seq, q_lst, q_rng, q_rng2, q_zpT, q_zpL, q_truN, q_truB, q_truI, q_truT, q_truL, t_non, t_bl, t_int, t_str, t_tup, q_isiN, q_isiB, q_isiI, q_isiS, q_isiT, i_NoneType_int, i_NoneType_bool, i_NoneType_tuple, i_NoneType_list, i_NoneType_str, i_bool_int, i_bool_bool, i_bool_tuple, i_bool_list, i_bool_str, i_int_int, i_int_bool, i_int_tuple, i_int_list, i_int_str, i_str_int, i_str_bool, i_str_tuple, i_str_list, i_str_str, i_tuple_int, i_tuple_bool, i_tuple_tuple, i_tuple_list, i_tuple_str, i_list_int, i_list_bool, i_list_tuple, i_list_list, i_list_str, i_dict_int, i_dict_bool, i_dict_tuple, i_dict_list, i_dict_str, up_same, g_02, g_02', g_01, g_11, at_0, at_1, ix_0, ix_1, Option.some.injEq, HQ.lst.injEq, exists_eq_left', exists_eq_left, exists_and_left, exists_eq', exists_eq, decide_eq_true_eq, if_true, if_false, ite_true, ite_false, Bool.false_eq_true, reduceIte, reduceCtorEq, Bool.not_true, Bool.not_false, Nat.zero_add, Nat.reduceAdd, Nat.reduceSub, Nat.reduceLeDiff, Nat.reduceLT, Int.reduceLT, Int.reduceLE, Int.reduceEq, Int.reduceNe, Nat.reduceEqDiff, Int.reduceToNat, Int.reducePow, Int.reduceMul, Int.reduceAdd, Int.reduceSub, Int.reduceNeg, and_true, true_and, decide_true, decide_false, letD, at_2, at_3, n2, n3]
    refine ⟨z, rfl, hz, ?_⟩
    simp only [rVar, rC, rBin, rUn, rTst, rChn, rTru, rAnd, rOr, rNot, rAndV, rOrV, rNotV, rIf, rNil, rCons, rTup, rLst, rFn, rCall, rCallK, rSl, rPrt, rNoP, rMt, gNm, q_gN, q_gC, q_gTp, gSb, rNext, rSeq, rDrop, rRet, rRetN, rBrk, rCnt, rIfS, rSet, rPar, rFor, iSeq, iLst, iRg1, iRg2, iZp, iEn, iStrD, rLc, rYes, q_isi2, q_i2N, q_i2B, q_i2I, q_i2S, q_i2T, q_i2L, q_j2N, q_j2B, q_j2I, q_j2S, q_j2T, q_j2L, q_gt2, q_gtT, q_en, q_int2, q_strD, q_rev, q_ixo, q_ext2, q_extT, En.x, wipeD, start', List.getElem?_cons_zero, List.getElem?_cons_succ, List.set_cons_zero, List.set_cons_succ, List.map_cons, List.map_nil, List.length_cons, List.length_nil, List.cons_append, List.nil_append, List.replicate_succ, List.replicate_zero, id, q_asB, q_asI, q_add, q_addS, q_addT, q_addL, q_int, q_sub, q_mul, q_fdiv, q_mod, q_pow, q_neg, q_le, q_ge, q_gt, q_lt, q_ltT, q_isN, q_isB, q_isBi, q_isBs, q_isBn, q_isBt, q_isnt, n_non, n_bl, n_int, n_str, n_tup, n_ref, q_eq, q_eqS, q_eqB, q_ixT, q_ixK, q_ixL, q_ixS, q_slT, q_slL, q_slS, q_set, q_lenT, q_lenK, q_lenS, q_lenL, q_abs, q_intF, q_max, q_min, q_tupT, q_tupL, q_lstT, q_lstL, q_app, q_ext, q_joinL, q_stw, q_seq, q_lst, q_rng, q_rng2, q_zpT, q_zpL, q_truN, q_truB, q_truI, q_truT, q_truL, t_non, t_bl, t_int, t_str, t_tup, q_isiN, q_isiB, q_isiI, q_isiS, q_isiT, i_NoneType_int, i_NoneType_bool, i_NoneType_tuple, i_NoneType_list, i_NoneType_str, i_bool_int, i_bool_bool, i_bool_tuple, i_bool_list, i_bool_str, i_int_int, i_int_bool, i_int_tuple, i_int_list, i_int_str, i_str_int, i_str_bool, i_str_tuple, i_str_list, i_str_str, i_tuple_int, i_tuple_bool, i_tuple_tuple, i_tuple_list, i_tuple_str, i_list_int, i_list_bool, i_list_tuple, i_list_list, i_list_str, i_dict_int, i_dict_bool, i_dict_tuple, i_dict_list, i_dict_str, up_same, g_02, g_02', g_01, g_11, at_0, at_1, ix_0, ix_1, Option.some.injEq, HQ.lst.injEq, exists_eq_left', exists_eq_left, exists_and_left, exists_eq', exists_eq, decide_eq_true_eq, if_true, if_false, ite_true, ite_false, Bool.false_eq_true, reduceIte, reduceCtorEq, Bool.not_true, Bool.not_false, Nat.zero_add, Nat.reduceAdd, Nat.reduceSub, Nat.reduceLeDiff, Nat.reduceLT, Int.reduceLT, Int.reduceLE, Int.reduceEq, Int.reduceNe, Nat.reduceEqDiff, Int.reduceToNat, Int.reducePow, Int.reduceMul, Int.reduceAdd, Int.reduceSub, Int.reduceNeg, and_true, true_and, decide_true, decide_false]
    intro p hp
    refine ⟨s, rfl, h0, h1, fun q hq => ?_⟩
    simp only [rVar, rC, rBin, rUn, rTst, rChn, rTru, rAnd, rOr, rNot, rAndV, rOrV, rNotV, rIf, rNil, rCons, rTup, rLst, rFn, rCall, rCallK, rSl, rPrt, rNoP, rMt, gNm, q_gN, q_gC, q_gTp, gSb, rNext, rSeq, rDrop, rRet, rRetN, rBrk, rCnt, rIfS, rSet, rPar, rFor, iSeq, iLst, iRg1, iRg2, iZp, iEn, iStrD, rLc, rYes, q_isi2, q_i2N, q_i2B, q_i2I, q_i2S, q_i2T, q_i2L, q_j2N, q_j2B, q_j2I, q_j2S, q_j2T, q_j2L, q_gt2, q_gtT, q_en, q_int2, q_strD, q_rev, q_ixo, q_ext2, q_extT, En.x, wipeD, start', List.getElem?_cons_zero, List.getElem?_cons_succ, List.set_cons_zero, List.set_cons_succ, List.map_cons, List.map_nil, List.length_cons, List.length_nil, List.cons_append, List.nil_append, List.replicate_succ, List.replicate_zero, id, q_asB, q_asI, q_add, q_addS, q_addT, q_addL, q_int, q_sub, q_mul, q_fdiv, q_mod, q_pow, q_neg, q_le, q_ge, q_gt, q_lt, q_ltT, q_isN, q_isB, q_isBi, q_isBs, q_isBn, q_isBt, q_isnt, n_non, n_bl, n_int, n_str, n_tup, n_ref, q_eq, q_eqS, q_eqB, q_ixT, q_ixK, q_ixL, q_ixS, q_slT, q_slL, q_slS, q_set, q_lenT, q_lenK, q_lenS, q_lenL, q_abs, q_intF, q_max, q_min, q_tupT, q_tupL, q_lstT, q_lstL, q_app, q_ext, q_joinL, q_stw, q_seq, q_lst, q_rng, q_rng2, q_zpT, q_zpL, q_truN, q_truB, q_truI, q_truT, q_truL, t_non, t_bl, t_int, t_str, t_tup, q_isiN, q_isiB, q_isiI, q_isiS, q_isiT, i_NoneType_int, i_NoneType_bool, i_NoneType_tuple, i_NoneType_list, i_NoneType_str, i_bool_int, i_bool_bool, i_bool_tuple, i_bool_list, i_bool_str, i_int_int, i_int_bool, i_int_tuple, i_int_list, i_int_str, i_str_int, i_str_bool, i_str_tuple, i_str_list, i_str_str, i_tuple_int, i_tuple_bool, i_tuple_tuple, i_tuple_list, i_tuple_str, i_list_int, i_list_bool, i_list_tuple, i_list_list, i_list_str, i_dict_int, i_dict_bool, i_dict_tuple, i_dict_list, i_dict_str, up_same, g_02, g_02', g_01, g_11, at_0, at_1, ix_0, ix_1, Option.some.injEq, HQ.lst.injEq, exists_eq_left', exists_eq_left, exists_and_left, exists_eq', exists_eq, decide_eq_true_eq, if_true, if_false, ite_true, ite_false, Bool.false_eq_true, reduceIte, reduceCtorEq, Bool.not_true, Bool.not_false, Nat.zero_add, Nat.reduceAdd, Nat.reduceSub, Nat.reduceLeDiff, Nat.reduceLT, Int.reduceLT, Int.reduceLE, Int.reduceEq, Int.reduceNe, Nat.reduceEqDiff, Int.reduceToNat, Int.reducePow, Int.reduceMul, Int.reduceAdd, Int.reduceSub, Int.reduceNeg, and_true, true_and, decide_true, decide_false]
    have g1 := gI_len (k := 99) (w := s)
    refine ⟨_, up_get hq up_same, by simp; omega, fun u hu => ?_⟩
    have l1 := ((Le.new (q := .lst [.int (plI z)]) hp).trans (Le.new (q := .lst ((gI 99 s).map D.int)) hq)).trans (Le.new (q := .lst ([D.int (plI z)] ++ (gI 99 s).map D.int)) hu)
    have hu1 : up (up (up S p (.lst [.int (plI z)])) q (.lst ((gI 99 s).map D.int))) u (.lst ([D.int (plI z)] ++ (gI 99 s).map D.int)) u = some (.lst ([D.int (plI z)] ++ (gI 99 s).map D.int)) := up_same
    generalize up (up (up S p (.lst [.int (plI z)])) q (.lst ((gI 99 s).map D.int))) u (.lst ([D.int (plI z)] ++ (gI 99 s).map D.int)) = S1 at l1 hu1 ⊢
    refine ⟨o, rfl, ho, fun v S2 l2 hv hv2 => ?_⟩
    simp only [rVar, rC, rBin, rUn, rTst, rChn, rTru, rAnd, rOr, rNot, rAndV, rOrV, rNotV, rIf, rNil, rCons, rTup, rLst, rFn, rCall, rCallK, rSl, rPrt, rNoP, rMt, gNm, q_gN, q_gC, q_gTp, gSb, rNext, rSeq, rDrop, rRet, rRetN, rBrk, rCnt, rIfS, rSet, rPar, rFor, iSeq, iLst, iRg1, iRg2, iZp, iEn, iStrD, rLc, rYes, q_isi2, q_i2N, q_i2B, q_i2I, q_i2S, q_i2T, q_i2L, q_j2N, q_j2B, q_j2I, q_j2S, q_j2T, q_j2L, q_gt2, q_gtT, q_en, q_int2, q_strD, q_rev, q_ixo, q_ext2, q_extT, En.x, wipeD, start', List.getElem?_cons_zero, List.getElem?_cons_succ, List.set_cons_zero, List.set_cons_succ, List.map_cons, List.map_nil, List.length_cons, List.length_nil, List.cons_append, List.nil_append, List.replicate_succ, List.replicate_zero, id, q_asB, q_asI, q_add, q_addS, q_addT, q_addL, q_int, q_sub, q_mul, q_fdiv, q_mod, q_pow, q_neg, q_le, q_ge, q_gt, q_lt, q_ltT, q_isN, q_isB, q_isBi, q_isBs, q_isBn, q_isBt, q_isnt, n_non, n_bl, n_int, n_str, n_tup, n_ref, q_eq, q_eqS, q_eqB, q_ixT, q_ixK, q_ixL, q_ixS, q_slT, q_slL, q_slS, q_set, q_lenT, q_lenK, q_lenS, q_lenL, q_abs, q_intF, q_max, q_min, q_tupT, q_tupL, q_lstT, q_lstL, q_app, q_ext, q_joinL, q_stw, q_seq, q_lst, q_rng, q_rng2, q_zpT, q_zpL, q_truN, q_truB, q_truI, q_truT, q_truL, t_non, t_bl, t_int, t_str, t_tup, q_isiN, q_isiB, q_isiI, q_isiS, q_isiT, i_NoneType_int, i_NoneType_bool, i_NoneType_tuple, i_NoneType_list, i_NoneType_str, i_bool_int, i_bool_bool, i_bool_tuple, i_bool_list, i_bool_str, i_int_int, i_int_bool, i_int_tuple, i_int_list, i_int_str, i_str_int, i_str_bool, i_str_tuple, i_str_list, i_str_str, i_tuple_int, i_tuple_bool, i_tuple_tuple, i_tuple_list, i_tuple_str, i_list_int, i_list_bool, i_list_tuple, i_list_list, i_list_str, i_dict_int, i_dict_bool, i_dict_tuple, i_dict_list, i_dict_str, up_same, g_02, g_02', g_01, g_11, at_0, at_1, ix_0, ix_1, Option.some.injEq, HQ.lst.injEq, exists_eq_left', exists_eq_left, exists_and_left, exists_eq', exists_eq, decide_eq_true_eq, if_true, if_false, ite_true, ite_false, Bool.false_eq_true, reduceIte, reduceCtorEq, Bool.not_true, Bool.not_false, Nat.zero_add, Nat.reduceAdd, Nat.reduceSub, Nat.reduceLeDiff, Nat.reduceLT, Int.reduceLT, Int.reduceLE, Int.reduceEq, Int.reduceNe, Nat.reduceEqDiff, Int.reduceToNat, Int.reducePow, Int.reduceMul, Int.reduceAdd, Int.reduceSub, Int.reduceNeg, and_true, true_and, decide_true, decide_false]
    have g2 := numO_len ho
    refine ⟨_, l2 u _ hu1, _, hv2, by simp; omega, fun w hw => ?_⟩
    simp only [rVar, rC, rBin, rUn, rTst, rChn, rTru, rAnd, rOr, rNot, rAndV, rOrV, rNotV, rIf, rNil, rCons, rTup, rLst, rFn, rCall, rCallK, rSl, rPrt, rNoP, rMt, gNm, q_gN, q_gC, q_gTp, gSb, rNext, rSeq, rDrop, rRet, rRetN, rBrk, rCnt, rIfS, rSet, rPar, rFor, iSeq, iLst, iRg1, iRg2, iZp, iEn, iStrD, rLc, rYes, q_isi2, q_i2N, q_i2B, q_i2I, q_i2S, q_i2T, q_i2L, q_j2N, q_j2B, q_j2I, q_j2S, q_j2T, q_j2L, q_gt2, q_gtT, q_en, q_int2, q_strD, q_rev, q_ixo, q_ext2, q_extT, En.x, wipeD, start', List.getElem?_cons_zero, List.getElem?_cons_succ, List.set_cons_zero, List.set_cons_succ, List.map_cons, List.map_nil, List.length_cons, List.length_nil, List.cons_append, List.nil_append, List.replicate_succ, List.replicate_zero, id, q_asB, q_asI, q_add, q_addS, q_addT, q_addL, q_int, q_sub, q_mul, q_fdiv, q_mod, q_pow, q_neg, q_le, q_ge, q_gt, q_lt, q_ltT, q_isN, q_isB, q_isBi, q_isBs, q_isBn, q_isBt, q_isnt, n_non, n_bl, n_int, n_str, n_tup, n_ref, q_eq, q_eqS, q_eqB, q_ixT, q_ixK, q_ixL, q_ixS, q_slT, q_slL, q_slS, q_set, q_lenT, q_lenK, q_lenS, q_lenL, q_abs, q_intF, q_max, q_min, q_tupT, q_tupL, q_lstT, q_lstL, q_app, q_ext, q_joinL, q_stw, q_seq, q_lst, q_rng, q_rng2, q_zpT, q_zpL, q_truN, q_truB, q_truI, q_truT, q_truL, t_non, t_bl, t_int, t_str, t_tup, q_isiN, q_isiB, q_isiI, q_isiS, q_isiT, i_NoneType_int, i_NoneType_bool, i_NoneType_tuple, i_NoneType_list, i_NoneType_str, i_bool_int, i_bool_bool, i_bool_tuple, i_bool_list, i_bool_str, i_int_int, i_int_bool, i_int_tuple, i_int_list, i_int_str, i_str_int, i_str_bool, i_str_tuple, i_str_list, i_str_str, i_tuple_int, i_tuple_bool, i_tuple_tuple, i_tuple_list, i_tuple_str, i_list_int, i_list_bool, i_list_tuple, i_list_list, i_list_str, i_dict_int, i_dict_bool, i_dict_tuple, i_dict_list, i_dict_str, up_same, g_02, g_02', g_01, g_11, at_0, at_1, ix_0, ix_1, Option.some.injEq, HQ.lst.injEq, exists_eq_left', exists_eq_left, exists_and_left, exists_eq', exists_eq, decide_eq_true_eq, if_true, if_false, ite_true, ite_false, Bool.false_eq_true, reduceIte, reduceCtorEq, Bool.not_true, Bool.not_false, Nat.zero_add, Nat.reduceAdd, Nat.reduceSub, Nat.reduceLeDiff, Nat.reduceLT, Int.reduceLT, Int.reduceLE, Int.reduceEq, Int.reduceNe, Nat.reduceEqDiff, Int.reduceToNat, Int.reducePow, Int.reduceMul, Int.reduceAdd, Int.reduceSub, Int.reduceNeg, and_true, true_and, decide_true, decide_false]
    refine ⟨by simp; omega, ?_⟩
    have := k _ ((l1.trans l2).trans (Le.new (q := .lst ([D.int (plI z)] ++ (gI 99 s).map D.int ++ (numO o).map D.int)) hw))
    unfold formL at this
    simpa using this

def sp_encode_stream : Sq := fun ds S Q _ => ∃ ls : List Lt, ds = [.tup (ls.map letD)] ∧ (∀ l ∈ ls, LtOk l) ∧ ls.length ≤ 30 ∧ ∀ S', Le S S' → Q (.tup (((ls.map formL).flatten).map D.int)) S'
theorem ln_encode_stream : ∀ ds S Q E, sp_encode_stream ds S Q E → ds.length = 1 := by rintro _ _ _ _ ⟨b, rfl, _⟩; rfl
theorem nx_encode_stream : ∀ ds S Q E, sp_encode_stream ds S Q E → sp_encode_stream ds S Q NoX := fun _ _ _ _ h => h
theorem formL_len {l : Lt} (h : LtOk l) : (formL l).length ≤ 2000 := by
  cases l with
  | mail z b => have := h.2; simp only [formL, List.length_cons]; omega
  | ack z s => have := gI_len (k := 99) (w := s); simp only [formL, List.length_cons]; omega
  | rep z s o => have := gI_len (k := 99) (w := s); have := numO_len h.2.2.2; simp only [formL, List.length_cons, List.length_append]; omega
theorem forms_len : ∀ {ls : List Lt}, (∀ l ∈ ls, LtOk l) → ((ls.map formL).flatten).length ≤ 2000 * ls.length
  | [], _ => by simp
  | l :: ls, h => by
    rw [List.map_cons, List.flatten_cons, List.length_append, List.length_cons, Nat.mul_succ]
    have := forms_len (ls := ls) fun x m => h x (List.mem_cons_of_mem _ m)
    have := formL_len (h l List.mem_cons_self); omega
theorem forms_take {ls : List Lt} (h : ∀ l ∈ ls, LtOk l) (hl : ls.length ≤ 30) (i : Nat) : (((ls.take i).map formL).flatten).length ≤ 60000 := by
  have h1 := forms_len (ls := ls.take i) fun x m => h x (List.mem_of_mem_take m)
  have : (ls.take i).length ≤ 30 := by rw [List.length_take]; omega
  have := Nat.mul_le_mul_left 2000 this; omega

def rd_encode_stream : RSt :=
 (rSeq (rSet (rLst rNil) (gNm 1))
 (rSeq (rFor (iSeq (rVar 0)) (gNm 2)
 (rDrop (rMt "list" extD2 (rVar 1) (rCons (rCall sp_encode_letter (rCons (rVar 2) rNil)) rNil))))
 (rRet (rFn tupF (rCons (rVar 1) rNil)))))

theorem pu_encode_stream : ∀ ds S Q, sp_encode_stream ds S Q NoX → rd_encode_stream { nx := fun _ S => Q .non S, rt := Q } (start' 3 ds) S := by

  rintro _ S Q ⟨ls, rfl, hok, hl, k⟩
  unfold rd_encode_stream
  simp only [rVar, rC, rBin, rUn, rTst, rChn, rTru, rAnd, rOr, rNot, rAndV, rOrV, rNotV, rIf, rNil, rCons, rTup, rLst, rFn, rCall, rCallK, rSl, rPrt, rNoP, rMt, gNm, q_gN, q_gC, q_gTp, gSb, rNext, rSeq, rDrop, rRet, rRetN, rBrk, rCnt, rIfS, rSet, rPar, rFor, iSeq, iLst, iRg1, iRg2, iZp, iEn, iStrD, rLc, rYes, q_isi2, q_i2N, q_i2B, q_i2I, q_i2S, q_i2T, q_i2L, q_j2N, q_j2B, q_j2I, q_j2S, q_j2T, q_j2L, q_gt2, q_gtT, q_en, q_int2, q_strD, q_rev, q_ixo, q_ext2, q_extT, En.x, wipeD, start', List.getElem?_cons_zero, List.getElem?_cons_succ, List.set_cons_zero, List.set_cons_succ, List.map_cons, List.map_nil, List.length_cons, List.length_nil, List.cons_append, List.nil_append, List.replicate_succ, List.replicate_zero, id, q_asB, q_asI, q_add, q_addS, q_addT, q_addL, q_int, q_sub, q_mul, q_fdiv, q_mod, q_pow, q_neg, q_le, q_ge, q_gt, q_lt, q_ltT, q_isN, q_isB, q_isBi, q_isBs, q_isBn, q_isBt, q_isnt, n_non, n_bl, n_int, n_str, n_tup, n_ref, q_eq, q_eqS, q_eqB, q_ixT, q_ixK, q_ixL, q_ixS, q_slT, q_slL, q_slS, q_set, q_lenT, q_lenK, q_lenS, q_lenL, q_abs, q_intF, q_max, q_min, q_tupT, q_tupL, q_lstT, q_lstL, q_app, q_ext, q_joinL, q_stw, q_seq, q_lst, q_rng, q_rng2, q_zpT, q_zpL, q_truN, q_truB, q_truI, q_truT, q_truL, t_non, t_bl, t_int, t_str, t_tup, q_isiN, q_isiB, q_isiI, q_isiS, q_isiT, i_NoneType_int, i_NoneType_bool, i_NoneType_tuple, i_NoneType_list, i_NoneType_str, i_bool_int, i_bool_bool, i_bool_tuple, i_bool_list, i_bool_str, i_int_int, i_int_bool, i_int_tuple, i_int_list, i_int_str, i_str_int, i_str_bool, i_str_tuple, i_str_list, i_str_str, i_tuple_int, i_tuple_bool, i_tuple_tuple, i_tuple_list, i_tuple_str, i_list_int, i_list_bool, i_list_tuple, i_list_list, i_list_str, i_dict_int, i_dict_bool, i_dict_tuple, i_dict_list, i_dict_str, up_same, g_02, g_02', g_01, g_11, at_0, at_1, ix_0, ix_1, Option.some.injEq, HQ.lst.injEq, exists_eq_left', exists_eq_left, exists_and_left, exists_eq', exists_eq, decide_eq_true_eq, if_true, if_false, ite_true, ite_false, Bool.false_eq_true, reduceIte, reduceCtorEq, Bool.not_true, Bool.not_false, Nat.zero_add, Nat.reduceAdd, Nat.reduceSub, Nat.reduceLeDiff, Nat.reduceLT, Int.reduceLT, Int.reduceLE, Int.reduceEq, Int.reduceNe, Nat.reduceEqDiff, Int.reduceToNat, Int.reducePow, Int.reduceMul, Int.reduceAdd, Int.reduceSub, Int.reduceNeg, and_true, true_and, decide_true, decide_false]
  intro p hp
  refine loop_idx (fun i σ S' => ∃ y : Option D, σ = [some (.tup (ls.map letD)), some (.ref p), y] ∧ Le S S' ∧ S' p = some (.lst ((((ls.take i).map formL).flatten).map D.int)))
    (fun _ _ _ _ _ => trivial) (fun i x σ S' hx hp' N hN => ?_) (fun σ S' hp' => ?_) ⟨_, rfl, Le.new hp, by rw [up_same]; rfl⟩
  · obtain ⟨y, rfl, l1, hS⟩ := hp'
    rw [List.getElem?_map] at hx
    cases he : ls[i]? with
    | none => rw [he] at hx; cases hx
    | some e =>
      rw [he] at hx; cases hx
      have et : ls.take (i + 1) = ls.take i ++ [e] := by rw [List.take_add_one, he]; rfl
      have hb := hok e (List.mem_of_getElem? he)
      simp only [rVar, rC, rBin, rUn, rTst, rChn, rTru, rAnd, rOr, rNot, rAndV, rOrV, rNotV, rIf, rNil, rCons, rTup, rLst, rFn, rCall, rCallK, rSl, rPrt, rNoP, rMt, gNm, q_gN, q_gC, q_gTp, gSb, rNext, rSeq, rDrop, rRet, rRetN, rBrk, rCnt, rIfS, rSet, rPar, rFor, iSeq, iLst, iRg1, iRg2, iZp, iEn, iStrD, rLc, rYes, q_isi2, q_i2N, q_i2B, q_i2I, q_i2S, q_i2T, q_i2L, q_j2N, q_j2B, q_j2I, q_j2S, q_j2T, q_j2L, q_gt2, q_gtT, q_en, q_int2, q_strD, q_rev, q_ixo, q_ext2, q_extT, En.x, wipeD, start', List.getElem?_cons_zero, List.getElem?_cons_succ, List.set_cons_zero, List.set_cons_succ, List.map_cons, List.map_nil, List.length_cons, List.length_nil, List.cons_append, List.nil_append, List.replicate_succ, List.replicate_zero, id, q_asB, q_asI, q_add, q_addS, q_addT, q_addL, q_int, q_sub, q_mul, q_fdiv, q_mod, q_pow, q_neg, q_le, q_ge, q_gt, q_lt, q_ltT, q_isN, q_isB, q_isBi, q_isBs, q_isBn, q_isBt, q_isnt, n_non, n_bl, n_int, n_str, n_tup, n_ref, q_eq, q_eqS, q_eqB, q_ixT, q_ixK, q_ixL, q_ixS, q_slT, q_slL, q_slS, q_set, q_lenT, q_lenK, q_lenS, q_lenL, q_abs, q_intF, q_max, q_min, q_tupT, q_tupL, q_lstT, q_lstL, q_app, q_ext, q_joinL, q_stw, q_seq, q_lst, q_rng, q_rng2, q_zpT, q_zpL, q_truN, q_truB, q_truI, q_truT, q_truL, t_non, t_bl, t_int, t_str, t_tup, q_isiN, q_isiB, q_isiI, q_isiS, q_isiT, i_NoneType_int, i_NoneType_bool, i_NoneType_tuple, i_NoneType_list, i_NoneType_str, i_bool_int, i_bool_bool, i_bool_tuple, i_bool_list, i_bool_str, i_int_int, i_int_bool, i_int_tuple, i_int_list, i_int_str, i_str_int, i_str_bool, i_str_tuple, i_str_list, i_str_str, i_tuple_int, i_tuple_bool, i_tuple_tuple, i_tuple_list, i_tuple_str, i_list_int, i_list_bool, i_list_tuple, i_list_list, i_list_str, i_dict_int, i_dict_bool, i_dict_tuple, i_dict_list, i_dict_str, up_same, g_02, g_02', g_01, g_11, at_0, at_1, ix_0, ix_1, Option.some.injEq, HQ.lst.injEq, exists_eq_left', exists_eq_left, exists_and_left, exists_eq', exists_eq, decide_eq_true_eq, if_true, if_false, ite_true, ite_false, Bool.false_eq_true, reduceIte, reduceCtorEq, Bool.not_true, Bool.not_false, Nat.zero_add, Nat.reduceAdd, Nat.reduceSub, Nat.reduceLeDiff, Nat.reduceLT, Int.reduceLT, Int.reduceLE, Int.reduceEq, Int.reduceNe, Nat.reduceEqDiff, Int.reduceToNat, Int.reducePow, Int.reduceMul, Int.reduceAdd, Int.reduceSub, Int.reduceNeg, and_true, true_and, decide_true, decide_false]
      refine ⟨t_lst hS, e, rfl, hb, fun S2 l2 => ?_⟩
      have h1 := forms_take hok hl i
      have h2 := formL_len hb
      simp only [rVar, rC, rBin, rUn, rTst, rChn, rTru, rAnd, rOr, rNot, rAndV, rOrV, rNotV, rIf, rNil, rCons, rTup, rLst, rFn, rCall, rCallK, rSl, rPrt, rNoP, rMt, gNm, q_gN, q_gC, q_gTp, gSb, rNext, rSeq, rDrop, rRet, rRetN, rBrk, rCnt, rIfS, rSet, rPar, rFor, iSeq, iLst, iRg1, iRg2, iZp, iEn, iStrD, rLc, rYes, q_isi2, q_i2N, q_i2B, q_i2I, q_i2S, q_i2T, q_i2L, q_j2N, q_j2B, q_j2I, q_j2S, q_j2T, q_j2L, q_gt2, q_gtT, q_en, q_int2, q_strD, q_rev, q_ixo, q_ext2, q_extT, En.x, wipeD, start', List.getElem?_cons_zero, List.getElem?_cons_succ, List.set_cons_zero, List.set_cons_succ, List.map_cons, List.map_nil, List.length_cons, List.length_nil, List.cons_append, List.nil_append, List.replicate_succ, List.replicate_zero, id, q_asB, q_asI, q_add, q_addS, q_addT, q_addL, q_int, q_sub, q_mul, q_fdiv, q_mod, q_pow, q_neg, q_le, q_ge, q_gt, q_lt, q_ltT, q_isN, q_isB, q_isBi, q_isBs, q_isBn, q_isBt, q_isnt, n_non, n_bl, n_int, n_str, n_tup, n_ref, q_eq, q_eqS, q_eqB, q_ixT, q_ixK, q_ixL, q_ixS, q_slT, q_slL, q_slS, q_set, q_lenT, q_lenK, q_lenS, q_lenL, q_abs, q_intF, q_max, q_min, q_tupT, q_tupL, q_lstT, q_lstL, q_app, q_ext, q_joinL, q_stw, q_seq, q_lst, q_rng, q_rng2, q_zpT, q_zpL, q_truN, q_truB, q_truI, q_truT, q_truL, t_non, t_bl, t_int, t_str, t_tup, q_isiN, q_isiB, q_isiI, q_isiS, q_isiT, i_NoneType_int, i_NoneType_bool, i_NoneType_tuple, i_NoneType_list, i_NoneType_str, i_bool_int, i_bool_bool, i_bool_tuple, i_bool_list, i_bool_str, i_int_int, i_int_bool, i_int_tuple, i_int_list, i_int_str, i_str_int, i_str_bool, i_str_tuple, i_str_list, i_str_str, i_tuple_int, i_tuple_bool, i_tuple_tuple, i_tuple_list, i_tuple_str, i_list_int, i_list_bool, i_list_tuple, i_list_list, i_list_str, i_dict_int, i_dict_bool, i_dict_tuple, i_dict_list, i_dict_str, up_same, g_02, g_02', g_01, g_11, at_0, at_1, ix_0, ix_1, Option.some.injEq, HQ.lst.injEq, exists_eq_left', exists_eq_left, exists_and_left, exists_eq', exists_eq, decide_eq_true_eq, if_true, if_false, ite_true, ite_false, Bool.false_eq_true, reduceIte, reduceCtorEq, Bool.not_true, Bool.not_false, Nat.zero_add, Nat.reduceAdd, Nat.reduceSub, Nat.reduceLeDiff, Nat.reduceLT, Int.reduceLT, Int.reduceLE, Int.reduceEq, Int.reduceNe, Nat.reduceEqDiff, Int.reduceToNat, Int.reducePow, Int.reduceMul, Int.reduceAdd, Int.reduceSub, Int.reduceNeg, and_true, true_and, decide_true, decide_false]
      refine ⟨_, l2 p _ hS, by rw [List.length_map, List.length_map]; omega, hN _ _ ⟨_, rfl, ?_, ?_⟩⟩
      · intro a o ha
        rw [up_ne (ne_get ha hp)]
        exact l2 a o (l1 a o ha)
      · rw [up_same, et]; simp
  · obtain ⟨y, rfl, l1, hS⟩ := hp'
    rw [List.length_map, List.take_length] at hS
    simp only [rVar, rC, rBin, rUn, rTst, rChn, rTru, rAnd, rOr, rNot, rAndV, rOrV, rNotV, rIf, rNil, rCons, rTup, rLst, rFn, rCall, rCallK, rSl, rPrt, rNoP, rMt, gNm, q_gN, q_gC, q_gTp, gSb, rNext, rSeq, rDrop, rRet, rRetN, rBrk, rCnt, rIfS, rSet, rPar, rFor, iSeq, iLst, iRg1, iRg2, iZp, iEn, iStrD, rLc, rYes, q_isi2, q_i2N, q_i2B, q_i2I, q_i2S, q_i2T, q_i2L, q_j2N, q_j2B, q_j2I, q_j2S, q_j2T, q_j2L, q_gt2, q_gtT, q_en, q_int2, q_strD, q_rev, q_ixo, q_ext2, q_extT, En.x, wipeD, start', List.getElem?_cons_zero, List.getElem?_cons_succ, List.set_cons_zero, List.set_cons_succ, List.map_cons, List.map_nil, List.length_cons, List.length_nil, List.cons_append, List.nil_append, List.replicate_succ, List.replicate_zero, id, q_asB, q_asI, q_add, q_addS, q_addT, q_addL, q_int, q_sub, q_mul, q_fdiv, q_mod, q_pow, q_neg, q_le, q_ge, q_gt, q_lt, q_ltT, q_isN, q_isB, q_isBi, q_isBs, q_isBn, q_isBt, q_isnt, n_non, n_bl, n_int, n_str, n_tup, n_ref, q_eq, q_eqS, q_eqB, q_ixT, q_ixK, q_ixL, q_ixS, q_slT, q_slL, q_slS, q_set, q_lenT, q_lenK, q_lenS, q_lenL, q_abs, q_intF, q_max, q_min, q_tupT, q_tupL, q_lstT, q_lstL, q_app, q_ext, q_joinL, q_stw, q_seq, q_lst, q_rng, q_rng2, q_zpT, q_zpL, q_truN, q_truB, q_truI, q_truT, q_truL, t_non, t_bl, t_int, t_str, t_tup, q_isiN, q_isiB, q_isiI, q_isiS, q_isiT, i_NoneType_int, i_NoneType_bool, i_NoneType_tuple, i_NoneType_list, i_NoneType_str, i_bool_int, i_bool_bool, i_bool_tuple, i_bool_list, i_bool_str, i_int_int, i_int_bool, i_int_tuple, i_int_list, i_int_str, i_str_int, i_str_bool, i_str_tuple, i_str_list, i_str_str, i_tuple_int, i_tuple_bool, i_tuple_tuple, i_tuple_list, i_tuple_str, i_list_int, i_list_bool, i_list_tuple, i_list_list, i_list_str, i_dict_int, i_dict_bool, i_dict_tuple, i_dict_list, i_dict_str, up_same, g_02, g_02', g_01, g_11, at_0, at_1, ix_0, ix_1, Option.some.injEq, HQ.lst.injEq, exists_eq_left', exists_eq_left, exists_and_left, exists_eq', exists_eq, decide_eq_true_eq, if_true, if_false, ite_true, ite_false, Bool.false_eq_true, reduceIte, reduceCtorEq, Bool.not_true, Bool.not_false, Nat.zero_add, Nat.reduceAdd, Nat.reduceSub, Nat.reduceLeDiff, Nat.reduceLT, Int.reduceLT, Int.reduceLE, Int.reduceEq, Int.reduceNe, Nat.reduceEqDiff, Int.reduceToNat, Int.reducePow, Int.reduceMul, Int.reduceAdd, Int.reduceSub, Int.reduceNeg, and_true, true_and, decide_true, decide_false, hS]
    exact k _ l1

def sp_law_groups : Sq := fun ds S Q _ => ∃ w : Int, ds = [.int w] ∧ 0 ≤ w ∧ ∀ p S', Le S S' → S p = none → S' p = some (.lst ((gI 99 w).map D.int)) → Q (.ref p) S'
theorem ln_law_groups : ∀ ds S Q E, sp_law_groups ds S Q E → ds.length = 1 := by rintro _ _ _ _ ⟨b, rfl, _⟩; rfl
theorem nx_law_groups : ∀ ds S Q E, sp_law_groups ds S Q E → sp_law_groups ds S Q NoX := fun _ _ _ _ h => h

def rd_law_groups : RSt :=
 (rSeq (rSet (rLst rNil) (gNm 1))
 (rSeq (rFor (iRg1 (rCons (rC (.int 99)) rNil)) (gNm 2)
 (rSeq (rIfS (rTst (rBin ltD (rVar 0) (rC (.int 128))))
 rBrk
 rNext)
 (rSeq (rDrop (rMt "list" appD (rVar 1) (rCons (rBin addD (rBin modD (rFn intF (rCons (rVar 0) rNil)) (rC (.int 128))) (rC (.int 128))) rNil)))
 (rSet (rBin fdivD (rVar 0) (rC (.int 128))) (gNm 0)))))
 (rRet (rBin addD (rVar 1) (rLst (rCons (rVar 0) rNil))))))

theorem pu_law_groups : ∀ ds S Q, sp_law_groups ds S Q NoX → rd_law_groups { nx := fun _ S => Q .non S, rt := Q } (start' 3 ds) S := by

  rintro _ S Q ⟨w, rfl, h0, k⟩
  unfold rd_law_groups
  simp only [rVar, rC, rBin, rUn, rTst, rChn, rTru, rAnd, rOr, rNot, rAndV, rOrV, rNotV, rIf, rNil, rCons, rTup, rLst, rFn, rCall, rCallK, rSl, rPrt, rNoP, rMt, gNm, q_gN, q_gC, q_gTp, gSb, rNext, rSeq, rDrop, rRet, rRetN, rBrk, rCnt, rIfS, rSet, rPar, rFor, iSeq, iLst, iRg1, iRg2, iZp, iEn, iStrD, rLc, rYes, q_isi2, q_i2N, q_i2B, q_i2I, q_i2S, q_i2T, q_i2L, q_j2N, q_j2B, q_j2I, q_j2S, q_j2T, q_j2L, q_gt2, q_gtT, q_en, q_int2, q_strD, q_rev, q_ixo, q_ext2, q_extT, En.x, wipeD, start', List.getElem?_cons_zero, List.getElem?_cons_succ, List.set_cons_zero, List.set_cons_succ, List.map_cons, List.map_nil, List.length_cons, List.length_nil, List.cons_append, List.nil_append, List.replicate_succ, List.replicate_zero, id, q_asB, q_asI, q_add, q_addS, q_addT, q_addL, q_int, q_sub, q_mul, q_fdiv, q_mod, q_pow, q_neg, q_le, q_ge, q_gt, q_lt, q_ltT, q_isN, q_isB, q_isBi, q_isBs, q_isBn, q_isBt, q_isnt, n_non, n_bl, n_int, n_str, n_tup, n_ref, q_eq, q_eqS, q_eqB, q_ixT, q_ixK, q_ixL, q_ixS, q_slT, q_slL, q_slS, q_set, q_lenT, q_lenK, q_lenS, q_lenL, q_abs, q_intF, q_max, q_min, q_tupT, q_tupL, q_lstT, q_lstL, q_app, q_ext, q_joinL, q_stw, q_seq, q_lst, q_rng, q_rng2, q_zpT, q_zpL, q_truN, q_truB, q_truI, q_truT, q_truL, t_non, t_bl, t_int, t_str, t_tup, q_isiN, q_isiB, q_isiI, q_isiS, q_isiT, i_NoneType_int, i_NoneType_bool, i_NoneType_tuple, i_NoneType_list, i_NoneType_str, i_bool_int, i_bool_bool, i_bool_tuple, i_bool_list, i_bool_str, i_int_int, i_int_bool, i_int_tuple, i_int_list, i_int_str, i_str_int, i_str_bool, i_str_tuple, i_str_list, i_str_str, i_tuple_int, i_tuple_bool, i_tuple_tuple, i_tuple_list, i_tuple_str, i_list_int, i_list_bool, i_list_tuple, i_list_list, i_list_str, i_dict_int, i_dict_bool, i_dict_tuple, i_dict_list, i_dict_str, up_same, g_02, g_02', g_01, g_11, at_0, at_1, ix_0, ix_1, Option.some.injEq, HQ.lst.injEq, exists_eq_left', exists_eq_left, exists_and_left, exists_eq', exists_eq, decide_eq_true_eq, if_true, if_false, ite_true, ite_false, Bool.false_eq_true, reduceIte, reduceCtorEq, Bool.not_true, Bool.not_false, Nat.zero_add, Nat.reduceAdd, Nat.reduceSub, Nat.reduceLeDiff, Nat.reduceLT, Int.reduceLT, Int.reduceLE, Int.reduceEq, Int.reduceNe, Nat.reduceEqDiff, Int.reduceToNat, Int.reducePow, Int.reduceMul, Int.reduceAdd, Int.reduceSub, Int.reduceNeg, and_true, true_and, decide_true, decide_false]
  intro p hp
  have fin : ∀ (v : Int) (acc : List Int), acc ++ [v] = gI 99 w → acc.length ≤ 99 → ∀ q, up S p (.lst (acc.map D.int)) q = none → ∃ xs, up (up S p (.lst (acc.map D.int))) q (.lst [D.int v]) p = some (.lst xs) ∧ xs.length ≤ 999999 ∧
      ∀ r, up (up S p (.lst (acc.map D.int))) q (.lst [D.int v]) r = none → Q (.ref r) (up (up (up S p (.lst (acc.map D.int))) q (.lst [D.int v])) r (.lst (xs ++ [D.int v]))) := by
    intro v acc e hl q hq
    refine ⟨_, up_get hq up_same, by simp; omega, fun r hr => ?_⟩
    have l : Le S (up (up S p (.lst (acc.map D.int))) q (.lst [D.int v])) := (Le.new hp).trans (Le.new hq)
    refine k r _ (l.trans (Le.new hr)) ?_ ?_
    · cases g : S r with
      | none => rfl
      | some o => have := l r o g; rw [hr] at this; cases this
    · rw [up_same, ← e]; simp
  refine loop_idx (fun i σ S' => ∃ (v : Int) (acc : List Int) (y : Option D), σ = [some (.int v), some (.ref p), y] ∧ S' = up S p (.lst (acc.map D.int)) ∧ 0 ≤ v ∧ acc.length = i ∧ i ≤ 99 ∧ acc ++ gI (99 - i) v = gI 99 w)
    (fun _ _ _ _ _ => trivial) (fun i x σ S' hx hp' N hN => ?_) (fun σ S' hp' => ?_) ⟨w, [], _, rfl, rfl, h0, rfl, by omega, rfl⟩
  · obtain ⟨v, acc, y, rfl, rfl, hv, hl, hi, e⟩ := hp'
    obtain ⟨hi2, rfl⟩ := rangeD_get hx
    simp only [rVar, rC, rBin, rUn, rTst, rChn, rTru, rAnd, rOr, rNot, rAndV, rOrV, rNotV, rIf, rNil, rCons, rTup, rLst, rFn, rCall, rCallK, rSl, rPrt, rNoP, rMt, gNm, q_gN, q_gC, q_gTp, gSb, rNext, rSeq, rDrop, rRet, rRetN, rBrk, rCnt, rIfS, rSet, rPar, rFor, iSeq, iLst, iRg1, iRg2, iZp, iEn, iStrD, rLc, rYes, q_isi2, q_i2N, q_i2B, q_i2I, q_i2S, q_i2T, q_i2L, q_j2N, q_j2B, q_j2I, q_j2S, q_j2T, q_j2L, q_gt2, q_gtT, q_en, q_int2, q_strD, q_rev, q_ixo, q_ext2, q_extT, En.x, wipeD, start', List.getElem?_cons_zero, List.getElem?_cons_succ, List.set_cons_zero, List.set_cons_succ, List.map_cons, List.map_nil, List.length_cons, List.length_nil, List.cons_append, List.nil_append, List.replicate_succ, List.replicate_zero, id, q_asB, q_asI, q_add, q_addS, q_addT, q_addL, q_int, q_sub, q_mul, q_fdiv, q_mod, q_pow, q_neg, q_le, q_ge, q_gt, q_lt, q_ltT, q_isN, q_isB, q_isBi, q_isBs, q_isBn, q_isBt, q_isnt, n_non, n_bl, n_int, n_str, n_tup, n_ref, q_eq, q_eqS, q_eqB, q_ixT, q_ixK, q_ixL, q_ixS, q_slT, q_slL, q_slS, q_set, q_lenT, q_lenK, q_lenS, q_lenL, q_abs, q_intF, q_max, q_min, q_tupT, q_tupL, q_lstT, q_lstL, q_app, q_ext, q_joinL, q_stw, q_seq, q_lst, q_rng, q_rng2, q_zpT, q_zpL, q_truN, q_truB, q_truI, q_truT, q_truL, t_non, t_bl, t_int, t_str, t_tup, q_isiN, q_isiB, q_isiI, q_isiS, q_isiT, i_NoneType_int, i_NoneType_bool, i_NoneType_tuple, i_NoneType_list, i_NoneType_str, i_bool_int, i_bool_bool, i_bool_tuple, i_bool_list, i_bool_str, i_int_int, i_int_bool, i_int_tuple, i_int_list, i_int_str, i_str_int, i_str_bool, i_str_tuple, i_str_list, i_str_str, i_tuple_int, i_tuple_bool, i_tuple_tuple, i_tuple_list, i_tuple_str, i_list_int, i_list_bool, i_list_tuple, i_list_list, i_list_str, i_dict_int, i_dict_bool, i_dict_tuple, i_dict_list, i_dict_str, up_same, g_02, g_02', g_01, g_11, at_0, at_1, ix_0, ix_1, Option.some.injEq, HQ.lst.injEq, exists_eq_left', exists_eq_left, exists_and_left, exists_eq', exists_eq, decide_eq_true_eq, if_true, if_false, ite_true, ite_false, Bool.false_eq_true, reduceIte, reduceCtorEq, Bool.not_true, Bool.not_false, Nat.zero_add, Nat.reduceAdd, Nat.reduceSub, Nat.reduceLeDiff, Nat.reduceLT, Int.reduceLT, Int.reduceLE, Int.reduceEq, Int.reduceNe, Nat.reduceEqDiff, Int.reduceToNat, Int.reducePow, Int.reduceMul, Int.reduceAdd, Int.reduceSub, Int.reduceNeg, and_true, true_and, decide_true, decide_false]
    by_cases c : v < 128
    · simp only [c, rVar, rC, rBin, rUn, rTst, rChn, rTru, rAnd, rOr, rNot, rAndV, rOrV, rNotV, rIf, rNil, rCons, rTup, rLst, rFn, rCall, rCallK, rSl, rPrt, rNoP, rMt, gNm, q_gN, q_gC, q_gTp, gSb, rNext, rSeq, rDrop, rRet, rRetN, rBrk, rCnt, rIfS, rSet, rPar, rFor, iSeq, iLst, iRg1, iRg2, iZp, iEn, iStrD, rLc, rYes, q_isi2, q_i2N, q_i2B, q_i2I, q_i2S, q_i2T, q_i2L, q_j2N, q_j2B, q_j2I, q_j2S, q_j2T, q_j2L, q_gt2, q_gtT, q_en, q_int2, q_strD, q_rev, q_ixo, q_ext2, q_extT, En.x, wipeD, start', List.getElem?_cons_zero, List.getElem?_cons_succ, List.set_cons_zero, List.set_cons_succ, List.map_cons, List.map_nil, List.length_cons, List.length_nil, List.cons_append, List.nil_append, List.replicate_succ, List.replicate_zero, id, q_asB, q_asI, q_add, q_addS, q_addT, q_addL, q_int, q_sub, q_mul, q_fdiv, q_mod, q_pow, q_neg, q_le, q_ge, q_gt, q_lt, q_ltT, q_isN, q_isB, q_isBi, q_isBs, q_isBn, q_isBt, q_isnt, n_non, n_bl, n_int, n_str, n_tup, n_ref, q_eq, q_eqS, q_eqB, q_ixT, q_ixK, q_ixL, q_ixS, q_slT, q_slL, q_slS, q_set, q_lenT, q_lenK, q_lenS, q_lenL, q_abs, q_intF, q_max, q_min, q_tupT, q_tupL, q_lstT, q_lstL, q_app, q_ext, q_joinL, q_stw, q_seq, q_lst, q_rng, q_rng2, q_zpT, q_zpL, q_truN, q_truB, q_truI, q_truT, q_truL, t_non, t_bl, t_int, t_str, t_tup, q_isiN, q_isiB, q_isiI, q_isiS, q_isiT, i_NoneType_int, i_NoneType_bool, i_NoneType_tuple, i_NoneType_list, i_NoneType_str, i_bool_int, i_bool_bool, i_bool_tuple, i_bool_list, i_bool_str, i_int_int, i_int_bool, i_int_tuple, i_int_list, i_int_str, i_str_int, i_str_bool, i_str_tuple, i_str_list, i_str_str, i_tuple_int, i_tuple_bool, i_tuple_tuple, i_tuple_list, i_tuple_str, i_list_int, i_list_bool, i_list_tuple, i_list_list, i_list_str, i_dict_int, i_dict_bool, i_dict_tuple, i_dict_list, i_dict_str, up_same, g_02, g_02', g_01, g_11, at_0, at_1, ix_0, ix_1, Option.some.injEq, HQ.lst.injEq, exists_eq_left', exists_eq_left, exists_and_left, exists_eq', exists_eq, decide_eq_true_eq, if_true, if_false, ite_true, ite_false, Bool.false_eq_true, reduceIte, reduceCtorEq, Bool.not_true, Bool.not_false, Nat.zero_add, Nat.reduceAdd, Nat.reduceSub, Nat.reduceLeDiff, Nat.reduceLT, Int.reduceLT, Int.reduceLE, Int.reduceEq, Int.reduceNe, Nat.reduceEqDiff, Int.reduceToNat, Int.reducePow, Int.reduceMul, Int.reduceAdd, Int.reduceSub, Int.reduceNeg, and_true, true_and, decide_true, decide_false]
      rw [gI_one c] at e
      exact fin v acc e (by omega)
    · simp only [c, rVar, rC, rBin, rUn, rTst, rChn, rTru, rAnd, rOr, rNot, rAndV, rOrV, rNotV, rIf, rNil, rCons, rTup, rLst, rFn, rCall, rCallK, rSl, rPrt, rNoP, rMt, gNm, q_gN, q_gC, q_gTp, gSb, rNext, rSeq, rDrop, rRet, rRetN, rBrk, rCnt, rIfS, rSet, rPar, rFor, iSeq, iLst, iRg1, iRg2, iZp, iEn, iStrD, rLc, rYes, q_isi2, q_i2N, q_i2B, q_i2I, q_i2S, q_i2T, q_i2L, q_j2N, q_j2B, q_j2I, q_j2S, q_j2T, q_j2L, q_gt2, q_gtT, q_en, q_int2, q_strD, q_rev, q_ixo, q_ext2, q_extT, En.x, wipeD, start', List.getElem?_cons_zero, List.getElem?_cons_succ, List.set_cons_zero, List.set_cons_succ, List.map_cons, List.map_nil, List.length_cons, List.length_nil, List.cons_append, List.nil_append, List.replicate_succ, List.replicate_zero, id, q_asB, q_asI, q_add, q_addS, q_addT, q_addL, q_int, q_sub, q_mul, q_fdiv, q_mod, q_pow, q_neg, q_le, q_ge, q_gt, q_lt, q_ltT, q_isN, q_isB, q_isBi, q_isBs, q_isBn, q_isBt, q_isnt, n_non, n_bl, n_int, n_str, n_tup, n_ref, q_eq, q_eqS, q_eqB, q_ixT, q_ixK, q_ixL, q_ixS, q_slT, q_slL, q_slS, q_set, q_lenT, q_lenK, q_lenS, q_lenL, q_abs, q_intF, q_max, q_min, q_tupT, q_tupL, q_lstT, q_lstL, q_app, q_ext, q_joinL, q_stw, q_seq, q_lst, q_rng, q_rng2, q_zpT, q_zpL, q_truN, q_truB, q_truI, q_truT, q_truL, t_non, t_bl, t_int, t_str, t_tup, q_isiN, q_isiB, q_isiI, q_isiS, q_isiT, i_NoneType_int, i_NoneType_bool, i_NoneType_tuple, i_NoneType_list, i_NoneType_str, i_bool_int, i_bool_bool, i_bool_tuple, i_bool_list, i_bool_str, i_int_int, i_int_bool, i_int_tuple, i_int_list, i_int_str, i_str_int, i_str_bool, i_str_tuple, i_str_list, i_str_str, i_tuple_int, i_tuple_bool, i_tuple_tuple, i_tuple_list, i_tuple_str, i_list_int, i_list_bool, i_list_tuple, i_list_list, i_list_str, i_dict_int, i_dict_bool, i_dict_tuple, i_dict_list, i_dict_str, up_same, g_02, g_02', g_01, g_11, at_0, at_1, ix_0, ix_1, Option.some.injEq, HQ.lst.injEq, exists_eq_left', exists_eq_left, exists_and_left, exists_eq', exists_eq, decide_eq_true_eq, if_true, if_false, ite_true, ite_false, Bool.false_eq_true, reduceIte, reduceCtorEq, Bool.not_true, Bool.not_false, Nat.zero_add, Nat.reduceAdd, Nat.reduceSub, Nat.reduceLeDiff, Nat.reduceLT, Int.reduceLT, Int.reduceLE, Int.reduceEq, Int.reduceNe, Nat.reduceEqDiff, Int.reduceToNat, Int.reducePow, Int.reduceMul, Int.reduceAdd, Int.reduceSub, Int.reduceNeg, and_true, true_and, decide_true, decide_false]
      refine ⟨t_lst up_same, by simp; omega, ⟨by decide, by decide⟩, hN _ _ ⟨v / 128, acc ++ [v % 128 + 128], _, rfl, by rw [up_up]; simp, by omega, by simp [hl], by omega, ?_⟩⟩
      have e9 : 99 - i = (99 - (i + 1)) + 1 := by
        have : i < 99 := by simpa using hi2
        omega
      rw [e9, gI_more (by omega)] at e
      rw [← e]; simp
  · obtain ⟨v, acc, y, rfl, rfl, hv, hl, hi, e⟩ := hp'
    rw [rangeD_len] at hl e
    simp only [rVar, rC, rBin, rUn, rTst, rChn, rTru, rAnd, rOr, rNot, rAndV, rOrV, rNotV, rIf, rNil, rCons, rTup, rLst, rFn, rCall, rCallK, rSl, rPrt, rNoP, rMt, gNm, q_gN, q_gC, q_gTp, gSb, rNext, rSeq, rDrop, rRet, rRetN, rBrk, rCnt, rIfS, rSet, rPar, rFor, iSeq, iLst, iRg1, iRg2, iZp, iEn, iStrD, rLc, rYes, q_isi2, q_i2N, q_i2B, q_i2I, q_i2S, q_i2T, q_i2L, q_j2N, q_j2B, q_j2I, q_j2S, q_j2T, q_j2L, q_gt2, q_gtT, q_en, q_int2, q_strD, q_rev, q_ixo, q_ext2, q_extT, En.x, wipeD, start', List.getElem?_cons_zero, List.getElem?_cons_succ, List.set_cons_zero, List.set_cons_succ, List.map_cons, List.map_nil, List.length_cons, List.length_nil, List.cons_append, List.nil_append, List.replicate_succ, List.replicate_zero, id, q_asB, q_asI, q_add, q_addS, q_addT, q_addL, q_int, q_sub, q_mul, q_fdiv, q_mod, q_pow, q_neg, q_le, q_ge, q_gt, q_lt, q_ltT, q_isN, q_isB, q_isBi, q_isBs, q_isBn, q_isBt, q_isnt, n_non, n_bl, n_int, n_str, n_tup, n_ref, q_eq, q_eqS, q_eqB, q_ixT, q_ixK, q_ixL, q_ixS, q_slT, q_slL, q_slS, q_set, q_lenT, q_lenK, q_lenS, q_lenL, q_abs, q_intF, q_max, q_min, q_tupT, q_tupL, q_lstT, q_lstL, q_app, q_ext, q_joinL, q_stw, q_seq, q_lst, q_rng, q_rng2, q_zpT, q_zpL, q_truN, q_truB, q_truI, q_truT, q_truL, t_non, t_bl, t_int, t_str, t_tup, q_isiN, q_isiB, q_isiI, q_isiS, q_isiT, i_NoneType_int, i_NoneType_bool, i_NoneType_tuple, i_NoneType_list, i_NoneType_str, i_bool_int, i_bool_bool, i_bool_tuple, i_bool_list, i_bool_str, i_int_int, i_int_bool, i_int_tuple, i_int_list, i_int_str, i_str_int, i_str_bool, i_str_tuple, i_str_list, i_str_str, i_tuple_int, i_tuple_bool, i_tuple_tuple, i_tuple_list, i_tuple_str, i_list_int, i_list_bool, i_list_tuple, i_list_list, i_list_str, i_dict_int, i_dict_bool, i_dict_tuple, i_dict_list, i_dict_str, up_same, g_02, g_02', g_01, g_11, at_0, at_1, ix_0, ix_1, Option.some.injEq, HQ.lst.injEq, exists_eq_left', exists_eq_left, exists_and_left, exists_eq', exists_eq, decide_eq_true_eq, if_true, if_false, ite_true, ite_false, Bool.false_eq_true, reduceIte, reduceCtorEq, Bool.not_true, Bool.not_false, Nat.zero_add, Nat.reduceAdd, Nat.reduceSub, Nat.reduceLeDiff, Nat.reduceLT, Int.reduceLT, Int.reduceLE, Int.reduceEq, Int.reduceNe, Nat.reduceEqDiff, Int.reduceToNat, Int.reducePow, Int.reduceMul, Int.reduceAdd, Int.reduceSub, Int.reduceNeg, and_true, true_and, decide_true, decide_false]
    exact fin v acc e (by omega)

def sp_law_form : Sq := fun ds S Q _ => ∃ l, ds = [letD l] ∧ LtOk l ∧ ∀ p S', Le S S' → S p = none → S' p = some (.lst ((formL l).map D.int)) → Q (.ref p) S'
theorem ln_law_form : ∀ ds S Q E, sp_law_form ds S Q E → ds.length = 1 := by rintro _ _ _ _ ⟨b, rfl, _⟩; rfl
theorem nx_law_form : ∀ ds S Q E, sp_law_form ds S Q E → sp_law_form ds S Q NoX := fun _ _ _ _ h => h
def kdL : Lt → Str
  | .rep _ _ _ => Str.ofString "report"
  | .ack _ _ => Str.ofString "ack"
  | .mail _ _ => Str.ofString "mail"
def zL : Lt → Str
  | .rep z _ _ => z
  | .ack z _ => z
  | .mail z _ => z
def rL : Lt → List D
  | .rep _ s o => [.int s, ofO o]
  | .ack _ s => [.int s]
  | .mail _ b => [.tup (b.map D.int)]
theorem letD_eq (l : Lt) : letD l = .tup (.str (kdL l) :: .str (zL l) :: rL l) := by cases l <;> rfl
theorem zL_ok {l : Lt} (h : LtOk l) : SgOk (zL l) := by cases l with | rep => exact h.1 | ack => exact h.1 | mail => exact h.1
theorem plI_eq (z : Str) : plI z = ((z.cps.toList.foldl (fun a c => a * 2 + (c - 48)) 1 : Nat) : Int) := rfl
theorem numO_es {n : Int} {r : List Int} : numO (some (n :: r)) = ((r.length + 1 : Nat) : Int) :: ((n :: r.map zz).map (gI 99)).flatten := by
  unfold numO
  rw [List.map_cons, List.flatten_cons, List.map_map]; rfl

def rd_law_form : RSt :=
 (rSeq (rSet (rC (.int 1)) (gNm 1))
 (rSeq (rFor (iStrD (rBin ixD (rVar 0) (rC (.int 1)))) (gNm 2)
 (rSet (rBin addD (rBin mulD (rVar 1) (rC (.int 2))) (rMt "list" ixoD (rLst (rCons (rC (.str (Str.ofString "0"))) (rCons (rC (.str (Str.ofString "1"))) rNil))) (rCons (rVar 2) rNil))) (gNm 1)))
 (rSeq (rIfS (rTst (rBin (eqD id) (rBin ixD (rVar 0) (rC (.int 0))) (rC (.str (Str.ofString "mail")))))
 (rRet (rBin addD (rLst (rCons (rC (.int 2)) (rCons (rVar 1) (rCons (rFn lenD (rCons (rBin ixD (rVar 0) (rC (.int 2))) rNil)) rNil)))) (rFn lstF (rCons (rBin ixD (rVar 0) (rC (.int 2))) rNil))))
 rNext)
 (rSeq (rSet (rBin addD (rLst (rCons (rMt "list" ixoD (rLst (rCons (rC (.str (Str.ofString "report"))) (rCons (rC (.str (Str.ofString "ack"))) rNil))) (rCons (rBin ixD (rVar 0) (rC (.int 0))) rNil)) (rCons (rVar 1) rNil))) (rCall sp_law_groups (rCons (rBin ixD (rVar 0) (rC (.int 2))) rNil))) (gNm 3))
 (rSeq (rIfS (rTst (rBin (eqD id) (rBin ixD (rVar 0) (rC (.int 0))) (rC (.str (Str.ofString "ack")))))
 (rRet (rVar 3))
 rNext)
 (rSeq (rIfS (rTst (rBin isD (rBin ixD (rVar 0) (rC (.int 3))) (rC .non)))
 (rRet (rBin addD (rVar 3) (rLst (rCons (rC (.int 0)) rNil))))
 rNext)
 (rSeq (rDrop (rMt "list" appD (rVar 3) (rCons (rFn lenD (rCons (rBin ixD (rVar 0) (rC (.int 3))) rNil)) rNil)))
 (rSeq (rFor (iRg1 (rCons (rFn lenD (rCons (rBin ixD (rVar 0) (rC (.int 3))) rNil)) rNil)) (gNm 4)
 (rSeq (rSet (rBin ixD (rBin ixD (rVar 0) (rC (.int 3))) (rVar 4)) (gNm 5))
 (rSeq (rIfS (rTst (rBin gtD2 (rVar 4) (rC (.int 0))))
 (rSet (rIf (rTst (rBin geD (rVar 5) (rC (.int 0)))) (rBin mulD (rC (.int 2)) (rVar 5)) (rBin subD (rBin subD (rC (.int 0)) (rBin mulD (rC (.int 2)) (rVar 5))) (rC (.int 1)))) (gNm 5))
 rNext)
 (rDrop (rMt "list" extD2 (rVar 3) (rCons (rCall sp_law_groups (rCons (rVar 5) rNil)) rNil))))))
 (rRet (rVar 3))))))))))

theorem pu_law_form : ∀ ds S Q, sp_law_form ds S Q NoX → rd_law_form { nx := fun _ S => Q .non S, rt := Q } (start' 6 ds) S := by

  rintro _ S Q ⟨l, rfl, hl, k⟩
  unfold rd_law_form
  have hz := zL_ok hl
  simp only [rVar, rC, rBin, rUn, rTst, rChn, rTru, rAnd, rOr, rNot, rAndV, rOrV, rNotV, rIf, rNil, rCons, rTup, rLst, rFn, rCall, rCallK, rSl, rPrt, rNoP, rMt, gNm, q_gN, q_gC, q_gTp, gSb, rNext, rSeq, rDrop, rRet, rRetN, rBrk, rCnt, rIfS, rSet, rPar, rFor, iSeq, iLst, iRg1, iRg2, iZp, iEn, iStrD, rLc, rYes, q_isi2, q_i2N, q_i2B, q_i2I, q_i2S, q_i2T, q_i2L, q_j2N, q_j2B, q_j2I, q_j2S, q_j2T, q_j2L, q_gt2, q_gtT, q_en, q_int2, q_strD, q_rev, q_ixo, q_ext2, q_extT, En.x, wipeD, start', List.getElem?_cons_zero, List.getElem?_cons_succ, List.set_cons_zero, List.set_cons_succ, List.map_cons, List.map_nil, List.length_cons, List.length_nil, List.cons_append, List.nil_append, List.replicate_succ, List.replicate_zero, id, q_asB, q_asI, q_add, q_addS, q_addT, q_addL, q_int, q_sub, q_mul, q_fdiv, q_mod, q_pow, q_neg, q_le, q_ge, q_gt, q_lt, q_ltT, q_isN, q_isB, q_isBi, q_isBs, q_isBn, q_isBt, q_isnt, n_non, n_bl, n_int, n_str, n_tup, n_ref, q_eq, q_eqS, q_eqB, q_ixT, q_ixK, q_ixL, q_ixS, q_slT, q_slL, q_slS, q_set, q_lenT, q_lenK, q_lenS, q_lenL, q_abs, q_intF, q_max, q_min, q_tupT, q_tupL, q_lstT, q_lstL, q_app, q_ext, q_joinL, q_stw, q_seq, q_lst, q_rng, q_rng2, q_zpT, q_zpL, q_truN, q_truB, q_truI, q_truT, q_truL, t_non, t_bl, t_int, t_str, t_tup, q_isiN, q_isiB, q_isiI, q_isiS, q_isiT, i_NoneType_int, i_NoneType_bool, i_NoneType_tuple, i_NoneType_list, i_NoneType_str, i_bool_int, i_bool_bool, i_bool_tuple, i_bool_list, i_bool_str, i_int_int, i_int_bool, i_int_tuple, i_int_list, i_int_str, i_str_int, i_str_bool, i_str_tuple, i_str_list, i_str_str, i_tuple_int, i_tuple_bool, i_tuple_tuple, i_tuple_list, i_tuple_str, i_list_int, i_list_bool, i_list_tuple, i_list_list, i_list_str, i_dict_int, i_dict_bool, i_dict_tuple, i_dict_list, i_dict_str, up_same, g_02, g_02', g_01, g_11, at_0, at_1, ix_0, ix_1, Option.some.injEq, HQ.lst.injEq, exists_eq_left', exists_eq_left, exists_and_left, exists_eq', exists_eq, decide_eq_true_eq, if_true, if_false, ite_true, ite_false, Bool.false_eq_true, reduceIte, reduceCtorEq, Bool.not_true, Bool.not_false, Nat.zero_add, Nat.reduceAdd, Nat.reduceSub, Nat.reduceLeDiff, Nat.reduceLT, Int.reduceLT, Int.reduceLE, Int.reduceEq, Int.reduceNe, Nat.reduceEqDiff, Int.reduceToNat, Int.reducePow, Int.reduceMul, Int.reduceAdd, Int.reduceSub, Int.reduceNeg, and_true, true_and, decide_true, decide_false, letD_eq]
  refine loop_idx (fun i σ S' => ∃ y : Option D, σ = [some (.tup (.str (kdL l) :: .str (zL l) :: rL l)), some (.int ((((zL l).cps.toList.take i).foldl (fun a c => a * 2 + (c - 48)) 1 : Nat) : Int)), y, none, none, none] ∧ Le S S')
    (fun _ _ _ _ _ => trivial) (fun i x σ S' hx hp' N hN => ?_) (fun σ S' hp' => ?_) ⟨_, rfl, Le.refl⟩
  · obtain ⟨y, rfl, l1⟩ := hp'
    unfold signsD at hx
    rw [List.getElem?_map] at hx
    cases he : (zL l).cps.toList[i]? with
    | none => rw [he] at hx; cases hx
    | some c =>
      rw [he] at hx; cases hx
      have hc := hz.2 c (List.mem_of_getElem? he)
      have et : (zL l).cps.toList.take (i + 1) = (zL l).cps.toList.take i ++ [c] := by rw [List.take_add_one, he]; rfl
      simp only [rVar, rC, rBin, rUn, rTst, rChn, rTru, rAnd, rOr, rNot, rAndV, rOrV, rNotV, rIf, rNil, rCons, rTup, rLst, rFn, rCall, rCallK, rSl, rPrt, rNoP, rMt, gNm, q_gN, q_gC, q_gTp, gSb, rNext, rSeq, rDrop, rRet, rRetN, rBrk, rCnt, rIfS, rSet, rPar, rFor, iSeq, iLst, iRg1, iRg2, iZp, iEn, iStrD, rLc, rYes, q_isi2, q_i2N, q_i2B, q_i2I, q_i2S, q_i2T, q_i2L, q_j2N, q_j2B, q_j2I, q_j2S, q_j2T, q_j2L, q_gt2, q_gtT, q_en, q_int2, q_strD, q_rev, q_ixo, q_ext2, q_extT, En.x, wipeD, start', List.getElem?_cons_zero, List.getElem?_cons_succ, List.set_cons_zero, List.set_cons_succ, List.map_cons, List.map_nil, List.length_cons, List.length_nil, List.cons_append, List.nil_append, List.replicate_succ, List.replicate_zero, id, q_asB, q_asI, q_add, q_addS, q_addT, q_addL, q_int, q_sub, q_mul, q_fdiv, q_mod, q_pow, q_neg, q_le, q_ge, q_gt, q_lt, q_ltT, q_isN, q_isB, q_isBi, q_isBs, q_isBn, q_isBt, q_isnt, n_non, n_bl, n_int, n_str, n_tup, n_ref, q_eq, q_eqS, q_eqB, q_ixT, q_ixK, q_ixL, q_ixS, q_slT, q_slL, q_slS, q_set, q_lenT, q_lenK, q_lenS, q_lenL, q_abs, q_intF, q_max, q_min, q_tupT, q_tupL, q_lstT, q_lstL, q_app, q_ext, q_joinL, q_stw, q_seq, q_lst, q_rng, q_rng2, q_zpT, q_zpL, q_truN, q_truB, q_truI, q_truT, q_truL, t_non, t_bl, t_int, t_str, t_tup, q_isiN, q_isiB, q_isiI, q_isiS, q_isiT, i_NoneType_int, i_NoneType_bool, i_NoneType_tuple, i_NoneType_list, i_NoneType_str, i_bool_int, i_bool_bool, i_bool_tuple, i_bool_list, i_bool_str, i_int_int, i_int_bool, i_int_tuple, i_int_list, i_int_str, i_str_int, i_str_bool, i_str_tuple, i_str_list, i_str_str, i_tuple_int, i_tuple_bool, i_tuple_tuple, i_tuple_list, i_tuple_str, i_list_int, i_list_bool, i_list_tuple, i_list_list, i_list_str, i_dict_int, i_dict_bool, i_dict_tuple, i_dict_list, i_dict_str, up_same, g_02, g_02', g_01, g_11, at_0, at_1, ix_0, ix_1, Option.some.injEq, HQ.lst.injEq, exists_eq_left', exists_eq_left, exists_and_left, exists_eq', exists_eq, decide_eq_true_eq, if_true, if_false, ite_true, ite_false, Bool.false_eq_true, reduceIte, reduceCtorEq, Bool.not_true, Bool.not_false, Nat.zero_add, Nat.reduceAdd, Nat.reduceSub, Nat.reduceLeDiff, Nat.reduceLT, Int.reduceLT, Int.reduceLE, Int.reduceEq, Int.reduceNe, Nat.reduceEqDiff, Int.reduceToNat, Int.reducePow, Int.reduceMul, Int.reduceAdd, Int.reduceSub, Int.reduceNeg, and_true, true_and, decide_true, decide_false]
      refine ⟨cm_r (by decide) (by decide), fun q hq => ⟨t_lst up_same, [Str.ofString "0", Str.ofString "1"], rfl, c - 48, ?_, ?_, ?_⟩⟩
      · rcases hc with rfl | rfl <;> decide +kernel
      · rcases hc with rfl | rfl
        · intro m hm; omega
        · intro m hm
          have : m = 0 := by omega
          subst this
          decide +kernel
      · refine hN _ _ ⟨some (.str ⟨#[c]⟩), ?_, l1.trans (Le.new hq)⟩
        rw [et, List.foldl_append, List.foldl_cons, List.foldl_nil]
        have h48 : 48 ≤ c := by rcases hc with rfl | rfl <;> omega
        simp only [Int.natCast_add, Int.natCast_mul]
        rfl
  · obtain ⟨y, rfl, l1⟩ := hp'
    have e9 : (signsD (zL l)).length = (zL l).cps.toList.length := by unfold signsD; rw [List.length_map]
    rw [e9, List.take_length, ← plI_eq]
    have m1 : (Str.ofString "ack" = Str.ofString "mail") = False := by decide +kernel
    have m2 : (Str.ofString "report" = Str.ofString "mail") = False := by decide +kernel
    have m3 : (Str.ofString "report" = Str.ofString "ack") = False := by decide +kernel
    cases l with
    | mail z b =>
      simp only [rVar, rC, rBin, rUn, rTst, rChn, rTru, rAnd, rOr, rNot, rAndV, rOrV, rNotV, rIf, rNil, rCons, rTup, rLst, rFn, rCall, rCallK, rSl, rPrt, rNoP, rMt, gNm, q_gN, q_gC, q_gTp, gSb, rNext, rSeq, rDrop, rRet, rRetN, rBrk, rCnt, rIfS, rSet, rPar, rFor, iSeq, iLst, iRg1, iRg2, iZp, iEn, iStrD, rLc, rYes, q_isi2, q_i2N, q_i2B, q_i2I, q_i2S, q_i2T, q_i2L, q_j2N, q_j2B, q_j2I, q_j2S, q_j2T, q_j2L, q_gt2, q_gtT, q_en, q_int2, q_strD, q_rev, q_ixo, q_ext2, q_extT, En.x, wipeD, start', List.getElem?_cons_zero, List.getElem?_cons_succ, List.set_cons_zero, List.set_cons_succ, List.map_cons, List.map_nil, List.length_cons, List.length_nil, List.cons_append, List.nil_append, List.replicate_succ, List.replicate_zero, id, q_asB, q_asI, q_add, q_addS, q_addT, q_addL, q_int, q_sub, q_mul, q_fdiv, q_mod, q_pow, q_neg, q_le, q_ge, q_gt, q_lt, q_ltT, q_isN, q_isB, q_isBi, q_isBs, q_isBn, q_isBt, q_isnt, n_non, n_bl, n_int, n_str, n_tup, n_ref, q_eq, q_eqS, q_eqB, q_ixT, q_ixK, q_ixL, q_ixS, q_slT, q_slL, q_slS, q_set, q_lenT, q_lenK, q_lenS, q_lenL, q_abs, q_intF, q_max, q_min, q_tupT, q_tupL, q_lstT, q_lstL, q_app, q_ext, q_joinL, q_stw, q_seq, q_lst, q_rng, q_rng2, q_zpT, q_zpL, q_truN, q_truB, q_truI, q_truT, q_truL, t_non, t_bl, t_int, t_str, t_tup, q_isiN, q_isiB, q_isiI, q_isiS, q_isiT, i_NoneType_int, i_NoneType_bool, i_NoneType_tuple, i_NoneType_list, i_NoneType_str, i_bool_int, i_bool_bool, i_bool_tuple, i_bool_list, i_bool_str, i_int_int, i_int_bool, i_int_tuple, i_int_list, i_int_str, i_str_int, i_str_bool, i_str_tuple, i_str_list, i_str_str, i_tuple_int, i_tuple_bool, i_tuple_tuple, i_tuple_list, i_tuple_str, i_list_int, i_list_bool, i_list_tuple, i_list_list, i_list_str, i_dict_int, i_dict_bool, i_dict_tuple, i_dict_list, i_dict_str, up_same, g_02, g_02', g_01, g_11, at_0, at_1, ix_0, ix_1, Option.some.injEq, HQ.lst.injEq, exists_eq_left', exists_eq_left, exists_and_left, exists_eq', exists_eq, decide_eq_true_eq, if_true, if_false, ite_true, ite_false, Bool.false_eq_true, reduceIte, reduceCtorEq, Bool.not_true, Bool.not_false, Nat.zero_add, Nat.reduceAdd, Nat.reduceSub, Nat.reduceLeDiff, Nat.reduceLT, Int.reduceLT, Int.reduceLE, Int.reduceEq, Int.reduceNe, Nat.reduceEqDiff, Int.reduceToNat, Int.reducePow, Int.reduceMul, Int.reduceAdd, Int.reduceSub, Int.reduceNeg, and_true, true_and, decide_true, decide_false, kdL, zL, rL, at_2, List.length_map]
      intro p hp q hq
      have := hl.2
      refine ⟨_, up_get hq up_same, by simp; omega, fun r hr => ?_⟩
      have l2 := l1.trans ((Le.new (q := .lst [D.int 2, D.int (plI z), D.int (b.length : Int)]) hp).trans (Le.new (q := .lst (b.map D.int)) hq))
      exact k r _ (l2.trans (Le.new hr)) (l2.was hr) (by rw [up_same]; rfl)
    | ack z s =>
      obtain ⟨hz, h0, h1⟩ := hl
      simp only [rVar, rC, rBin, rUn, rTst, rChn, rTru, rAnd, rOr, rNot, rAndV, rOrV, rNotV, rIf, rNil, rCons, rTup, rLst, rFn, rCall, rCallK, rSl, rPrt, rNoP, rMt, gNm, q_gN, q_gC, q_gTp, gSb, rNext, rSeq, rDrop, rRet, rRetN, rBrk, rCnt, rIfS, rSet, rPar, rFor, iSeq, iLst, iRg1, iRg2, iZp, iEn, iStrD, rLc, rYes, q_isi2, q_i2N, q_i2B, q_i2I, q_i2S, q_i2T, q_i2L, q_j2N, q_j2B, q_j2I, q_j2S, q_j2T, q_j2L, q_gt2, q_gtT, q_en, q_int2, q_strD, q_rev, q_ixo, q_ext2, q_extT, En.x, wipeD, start', List.getElem?_cons_zero, List.getElem?_cons_succ, List.set_cons_zero, List.set_cons_succ, List.map_cons, List.map_nil, List.length_cons, List.length_nil, List.cons_append, List.nil_append, List.replicate_succ, List.replicate_zero, id, q_asB, q_asI, q_add, q_addS, q_addT, q_addL, q_int, q_sub, q_mul, q_fdiv, q_mod, q_pow, q_neg, q_le, q_ge, q_gt, q_lt, q_ltT, q_isN, q_isB, q_isBi, q_isBs, q_isBn, q_isBt, q_isnt, n_non, n_bl, n_int, n_str, n_tup, n_ref, q_eq, q_eqS, q_eqB, q_ixT, q_ixK, q_ixL, q_ixS, q_slT, q_slL, q_slS, q_set, q_lenT, q_lenK, q_lenS, q_lenL, q_abs, q_intF, q_max, q_min, q_tupT, q_tupL, q_lstT, q_lstL, q_app, q_ext, q_joinL, q_stw, q_seq, q_lst, q_rng, q_rng2, q_zpT, q_zpL, q_truN, q_truB, q_truI, q_truT, q_truL, t_non, t_bl, t_int, t_str, t_tup, q_isiN, q_isiB, q_isiI, q_isiS, q_isiT, i_NoneType_int, i_NoneType_bool, i_NoneType_tuple, i_NoneType_list, i_NoneType_str, i_bool_int, i_bool_bool, i_bool_tuple, i_bool_list, i_bool_str, i_int_int, i_int_bool, i_int_tuple, i_int_list, i_int_str, i_str_int, i_str_bool, i_str_tuple, i_str_list, i_str_str, i_tuple_int, i_tuple_bool, i_tuple_tuple, i_tuple_list, i_tuple_str, i_list_int, i_list_bool, i_list_tuple, i_list_list, i_list_str, i_dict_int, i_dict_bool, i_dict_tuple, i_dict_list, i_dict_str, up_same, g_02, g_02', g_01, g_11, at_0, at_1, ix_0, ix_1, Option.some.injEq, HQ.lst.injEq, exists_eq_left', exists_eq_left, exists_and_left, exists_eq', exists_eq, decide_eq_true_eq, if_true, if_false, ite_true, ite_false, Bool.false_eq_true, reduceIte, reduceCtorEq, Bool.not_true, Bool.not_false, Nat.zero_add, Nat.reduceAdd, Nat.reduceSub, Nat.reduceLeDiff, Nat.reduceLT, Int.reduceLT, Int.reduceLE, Int.reduceEq, Int.reduceNe, Nat.reduceEqDiff, Int.reduceToNat, Int.reducePow, Int.reduceMul, Int.reduceAdd, Int.reduceSub, Int.reduceNeg, and_true, true_and, decide_true, decide_false, kdL, zL, rL, at_2, m1]
      intro p hp
      refine ⟨t_lst up_same, [Str.ofString "report", Str.ofString "ack"], rfl, 1, rfl, ?_, ?_⟩
      · intro m hm
        have : m = 0 := by omega
        subst this
        decide +kernel
      intro q hq
      have l2 := l1.trans ((Le.new (q := .lst [D.str (Str.ofString "report"), D.str (Str.ofString "ack")]) hp).trans (Le.new (q := .lst [D.int ((1 : Nat) : Int), D.int (plI z)]) hq))
      refine ⟨s, rfl, h0, fun u S3 l3 hu hS3 => ?_⟩
      simp only [rVar, rC, rBin, rUn, rTst, rChn, rTru, rAnd, rOr, rNot, rAndV, rOrV, rNotV, rIf, rNil, rCons, rTup, rLst, rFn, rCall, rCallK, rSl, rPrt, rNoP, rMt, gNm, q_gN, q_gC, q_gTp, gSb, rNext, rSeq, rDrop, rRet, rRetN, rBrk, rCnt, rIfS, rSet, rPar, rFor, iSeq, iLst, iRg1, iRg2, iZp, iEn, iStrD, rLc, rYes, q_isi2, q_i2N, q_i2B, q_i2I, q_i2S, q_i2T, q_i2L, q_j2N, q_j2B, q_j2I, q_j2S, q_j2T, q_j2L, q_gt2, q_gtT, q_en, q_int2, q_strD, q_rev, q_ixo, q_ext2, q_extT, En.x, wipeD, start', List.getElem?_cons_zero, List.getElem?_cons_succ, List.set_cons_zero, List.set_cons_succ, List.map_cons, List.map_nil, List.length_cons, List.length_nil, List.cons_append, List.nil_append, List.replicate_succ, List.replicate_zero, id, q_asB, q_asI, q_add, q_addS, q_addT, q_addL, q_int, q_sub, q_mul, q_fdiv, q_mod, q_pow, q_neg, q_le, q_ge, q_gt, q_lt, q_ltT, q_isN, q_isB, q_isBi, q_isBs, q_isBn, q_isBt, q_isnt, n_non, n_bl, n_int, n_str, n_tup, n_ref, q_eq, q_eqS, q_eqB, q_ixT, q_ixK, q_ixL, q_ixS, q_slT, q_slL, q_slS, q_set, q_lenT, q_lenK, q_lenS, q_lenL, q_abs, q_intF, q_max, q_min, q_tupT, q_tupL, q_lstT, q_lstL, q_app, q_ext, q_joinL, q_stw, q_seq, q_lst, q_rng, q_rng2, q_zpT, q_zpL, q_truN, q_truB, q_truI, q_truT, q_truL, t_non, t_bl, t_int, t_str, t_tup, q_isiN, q_isiB, q_isiI, q_isiS, q_isiT, i_NoneType_int, i_NoneType_bool, i_NoneType_tuple, i_NoneType_list, i_NoneType_str, i_bool_int, i_bool_bool, i_bool_tuple, i_bool_list, i_bool_str, i_int_int, i_int_bool, i_int_tuple, i_int_list, i_int_str, i_str_int, i_str_bool, i_str_tuple, i_str_list, i_str_str, i_tuple_int, i_tuple_bool, i_tuple_tuple, i_tuple_list, i_tuple_str, i_list_int, i_list_bool, i_list_tuple, i_list_list, i_list_str, i_dict_int, i_dict_bool, i_dict_tuple, i_dict_list, i_dict_str, up_same, g_02, g_02', g_01, g_11, at_0, at_1, ix_0, ix_1, Option.some.injEq, HQ.lst.injEq, exists_eq_left', exists_eq_left, exists_and_left, exists_eq', exists_eq, decide_eq_true_eq, if_true, if_false, ite_true, ite_false, Bool.false_eq_true, reduceIte, reduceCtorEq, Bool.not_true, Bool.not_false, Nat.zero_add, Nat.reduceAdd, Nat.reduceSub, Nat.reduceLeDiff, Nat.reduceLT, Int.reduceLT, Int.reduceLE, Int.reduceEq, Int.reduceNe, Nat.reduceEqDiff, Int.reduceToNat, Int.reducePow, Int.reduceMul, Int.reduceAdd, Int.reduceSub, Int.reduceNeg, and_true, true_and, decide_true, decide_false]
      have := gI_len (k := 99) (w := s)
      refine ⟨_, l3 q _ up_same, _, hS3, by simp; omega, fun r hr => ?_⟩
      exact k r _ ((l2.trans l3).trans (Le.new hr)) ((l2.trans l3).was hr) (by rw [up_same]; simp [formL])
    | rep z s o =>
      obtain ⟨hz, h0, h1, ho⟩ := hl
      simp only [rVar, rC, rBin, rUn, rTst, rChn, rTru, rAnd, rOr, rNot, rAndV, rOrV, rNotV, rIf, rNil, rCons, rTup, rLst, rFn, rCall, rCallK, rSl, rPrt, rNoP, rMt, gNm, q_gN, q_gC, q_gTp, gSb, rNext, rSeq, rDrop, rRet, rRetN, rBrk, rCnt, rIfS, rSet, rPar, rFor, iSeq, iLst, iRg1, iRg2, iZp, iEn, iStrD, rLc, rYes, q_isi2, q_i2N, q_i2B, q_i2I, q_i2S, q_i2T, q_i2L, q_j2N, q_j2B, q_j2I, q_j2S, q_j2T, q_j2L, q_gt2, q_gtT, q_en, q_int2, q_strD, q_rev, q_ixo, q_ext2, q_extT, En.x, wipeD, start', List.getElem?_cons_zero, List.getElem?_cons_succ, List.set_cons_zero, List.set_cons_succ, List.map_cons, List.map_nil, List.length_cons, List.length_nil, List.cons_append, List.nil_append, List.replicate_succ, List.replicate_zero, id, q_asB, q_asI, q_add, q_addS, q_addT, q_addL, q_int, q_sub, q_mul, q_fdiv, q_mod, q_pow, q_neg, q_le, q_ge, q_gt, q_lt, q_ltT, q_isN, q_isB, q_isBi, q_isBs, q_isBn, q_isBt, q_isnt, n_non, n_bl, n_int, n_str, n_tup, n_ref, q_eq, q_eqS, q_eqB, q_ixT, q_ixK, q_ixL, q_ixS, q_slT, q_slL, q_slS, q_set, q_lenT, q_lenK, q_lenS, q_lenL, q_abs, q_intF, q_max, q_min, q_tupT, q_tupL, q_lstT, q_lstL, q_app, q_ext, q_joinL, q_stw, q_seq, q_lst, q_rng, q_rng2, q_zpT, q_zpL, q_truN, q_truB, q_truI, q_truT, q_truL, t_non, t_bl, t_int, t_str, t_tup, q_isiN, q_isiB, q_isiI, q_isiS, q_isiT, i_NoneType_int, i_NoneType_bool, i_NoneType_tuple, i_NoneType_list, i_NoneType_str, i_bool_int, i_bool_bool, i_bool_tuple, i_bool_list, i_bool_str, i_int_int, i_int_bool, i_int_tuple, i_int_list, i_int_str, i_str_int, i_str_bool, i_str_tuple, i_str_list, i_str_str, i_tuple_int, i_tuple_bool, i_tuple_tuple, i_tuple_list, i_tuple_str, i_list_int, i_list_bool, i_list_tuple, i_list_list, i_list_str, i_dict_int, i_dict_bool, i_dict_tuple, i_dict_list, i_dict_str, up_same, g_02, g_02', g_01, g_11, at_0, at_1, ix_0, ix_1, Option.some.injEq, HQ.lst.injEq, exists_eq_left', exists_eq_left, exists_and_left, exists_eq', exists_eq, decide_eq_true_eq, if_true, if_false, ite_true, ite_false, Bool.false_eq_true, reduceIte, reduceCtorEq, Bool.not_true, Bool.not_false, Nat.zero_add, Nat.reduceAdd, Nat.reduceSub, Nat.reduceLeDiff, Nat.reduceLT, Int.reduceLT, Int.reduceLE, Int.reduceEq, Int.reduceNe, Nat.reduceEqDiff, Int.reduceToNat, Int.reducePow, Int.reduceMul, Int.reduceAdd, Int.reduceSub, Int.reduceNeg, and_true, true_and, decide_true, decide_false, kdL, zL, rL, at_2, at_3, m2, m3]
      intro p hp
      refine ⟨t_lst up_same, [Str.ofString "report", Str.ofString "ack"], rfl, 0, rfl, fun m hm => by omega, ?_⟩
      intro q hq
      have l2 := l1.trans ((Le.new (q := .lst [D.str (Str.ofString "report"), D.str (Str.ofString "ack")]) hp).trans (Le.new (q := .lst [D.int ((0 : Nat) : Int), D.int (plI z)]) hq))
      refine ⟨s, rfl, h0, fun u S3 l3 hu hS3 => ?_⟩
      simp only [rVar, rC, rBin, rUn, rTst, rChn, rTru, rAnd, rOr, rNot, rAndV, rOrV, rNotV, rIf, rNil, rCons, rTup, rLst, rFn, rCall, rCallK, rSl, rPrt, rNoP, rMt, gNm, q_gN, q_gC, q_gTp, gSb, rNext, rSeq, rDrop, rRet, rRetN, rBrk, rCnt, rIfS, rSet, rPar, rFor, iSeq, iLst, iRg1, iRg2, iZp, iEn, iStrD, rLc, rYes, q_isi2, q_i2N, q_i2B, q_i2I, q_i2S, q_i2T, q_i2L, q_j2N, q_j2B, q_j2I, q_j2S, q_j2T, q_j2L, q_gt2, q_gtT, q_en, q_int2, q_strD, q_rev, q_ixo, q_ext2, q_extT, En.x, wipeD, start', List.getElem?_cons_zero, List.getElem?_cons_succ, List.set_cons_zero, List.set_cons_succ, List.map_cons, List.map_nil, List.length_cons, List.length_nil, List.cons_append, List.nil_append, List.replicate_succ, List.replicate_zero, id, q_asB, q_asI, q_add, q_addS, q_addT, q_addL, q_int, q_sub, q_mul, q_fdiv, q_mod, q_pow, q_neg, q_le, q_ge, q_gt, q_lt, q_ltT, q_isN, q_isB, q_isBi, q_isBs, q_isBn, q_isBt, q_isnt, n_non, n_bl, n_int, n_str, n_tup, n_ref, q_eq, q_eqS, q_eqB, q_ixT, q_ixK, q_ixL, q_ixS, q_slT, q_slL, q_slS, q_set, q_lenT, q_lenK, q_lenS, q_lenL, q_abs, q_intF, q_max, q_min, q_tupT, q_tupL, q_lstT, q_lstL, q_app, q_ext, q_joinL, q_stw, q_seq, q_lst, q_rng, q_rng2, q_zpT, q_zpL, q_truN, q_truB, q_truI, q_truT, q_truL, t_non, t_bl, t_int, t_str, t_tup, q_isiN, q_isiB, q_isiI, q_isiS, q_isiT, i_NoneType_int, i_NoneType_bool, i_NoneType_tuple, i_NoneType_list, i_NoneType_str, i_bool_int, i_bool_bool, i_bool_tuple, i_bool_list, i_bool_str, i_int_int, i_int_bool, i_int_tuple, i_int_list, i_int_str, i_str_int, i_str_bool, i_str_tuple, i_str_list, i_str_str, i_tuple_int, i_tuple_bool, i_tuple_tuple, i_tuple_list, i_tuple_str, i_list_int, i_list_bool, i_list_tuple, i_list_list, i_list_str, i_dict_int, i_dict_bool, i_dict_tuple, i_dict_list, i_dict_str, up_same, g_02, g_02', g_01, g_11, at_0, at_1, ix_0, ix_1, Option.some.injEq, HQ.lst.injEq, exists_eq_left', exists_eq_left, exists_and_left, exists_eq', exists_eq, decide_eq_true_eq, if_true, if_false, ite_true, ite_false, Bool.false_eq_true, reduceIte, reduceCtorEq, Bool.not_true, Bool.not_false, Nat.zero_add, Nat.reduceAdd, Nat.reduceSub, Nat.reduceLeDiff, Nat.reduceLT, Int.reduceLT, Int.reduceLE, Int.reduceEq, Int.reduceNe, Nat.reduceEqDiff, Int.reduceToNat, Int.reducePow, Int.reduceMul, Int.reduceAdd, Int.reduceSub, Int.reduceNeg, and_true, true_and, decide_true, decide_false]
      have g1 := gI_len (k := 99) (w := s)
      refine ⟨_, l3 q _ up_same, _, hS3, by simp; omega, fun f hf => ?_⟩
      have l4 := l2.trans l3
      have hf0 := l4.was hf
      have hf1 : up S3 f (.lst ([D.int ((0 : Nat) : Int), D.int (plI z)] ++ (gI 99 s).map D.int)) f = some (.lst (([0, plI z] ++ gI 99 s).map D.int)) := by rw [up_same]; simp
      have l5 := l4.put (q := .lst ([D.int ((0 : Nat) : Int), D.int (plI z)] ++ (gI 99 s).map D.int)) hf0
      generalize up S3 f (.lst ([D.int ((0 : Nat) : Int), D.int (plI z)] ++ (gI 99 s).map D.int)) = S4 at hf1 l5 ⊢
      cases o with
      | none =>
        simp only [rVar, rC, rBin, rUn, rTst, rChn, rTru, rAnd, rOr, rNot, rAndV, rOrV, rNotV, rIf, rNil, rCons, rTup, rLst, rFn, rCall, rCallK, rSl, rPrt, rNoP, rMt, gNm, q_gN, q_gC, q_gTp, gSb, rNext, rSeq, rDrop, rRet, rRetN, rBrk, rCnt, rIfS, rSet, rPar, rFor, iSeq, iLst, iRg1, iRg2, iZp, iEn, iStrD, rLc, rYes, q_isi2, q_i2N, q_i2B, q_i2I, q_i2S, q_i2T, q_i2L, q_j2N, q_j2B, q_j2I, q_j2S, q_j2T, q_j2L, q_gt2, q_gtT, q_en, q_int2, q_strD, q_rev, q_ixo, q_ext2, q_extT, En.x, wipeD, start', List.getElem?_cons_zero, List.getElem?_cons_succ, List.set_cons_zero, List.set_cons_succ, List.map_cons, List.map_nil, List.length_cons, List.length_nil, List.cons_append, List.nil_append, List.replicate_succ, List.replicate_zero, id, q_asB, q_asI, q_add, q_addS, q_addT, q_addL, q_int, q_sub, q_mul, q_fdiv, q_mod, q_pow, q_neg, q_le, q_ge, q_gt, q_lt, q_ltT, q_isN, q_isB, q_isBi, q_isBs, q_isBn, q_isBt, q_isnt, n_non, n_bl, n_int, n_str, n_tup, n_ref, q_eq, q_eqS, q_eqB, q_ixT, q_ixK, q_ixL, q_ixS, q_slT, q_slL, q_slS, q_set, q_lenT, q_lenK, q_lenS, q_lenL, q_abs, q_intF, q_max, q_min, q_tupT, q_tupL, q_lstT, q_lstL, q_app, q_ext, q_joinL, q_stw, q_seq, q_lst, q_rng, q_rng2, q_zpT, q_zpL, q_truN, q_truB, q_truI, q_truT, q_truL, t_non, t_bl, t_int, t_str, t_tup, q_isiN, q_isiB, q_isiI, q_isiS, q_isiT, i_NoneType_int, i_NoneType_bool, i_NoneType_tuple, i_NoneType_list, i_NoneType_str, i_bool_int, i_bool_bool, i_bool_tuple, i_bool_list, i_bool_str, i_int_int, i_int_bool, i_int_tuple, i_int_list, i_int_str, i_str_int, i_str_bool, i_str_tuple, i_str_list, i_str_str, i_tuple_int, i_tuple_bool, i_tuple_tuple, i_tuple_list, i_tuple_str, i_list_int, i_list_bool, i_list_tuple, i_list_list, i_list_str, i_dict_int, i_dict_bool, i_dict_tuple, i_dict_list, i_dict_str, up_same, g_02, g_02', g_01, g_11, at_0, at_1, ix_0, ix_1, Option.some.injEq, HQ.lst.injEq, exists_eq_left', exists_eq_left, exists_and_left, exists_eq', exists_eq, decide_eq_true_eq, if_true, if_false, ite_true, ite_false, Bool.false_eq_true, reduceIte, reduceCtorEq, Bool.not_true, Bool.not_false, Nat.zero_add, Nat.reduceAdd, Nat.reduceSub, Nat.reduceLeDiff, Nat.reduceLT, Int.reduceLT, Int.reduceLE, Int.reduceEq, Int.reduceNe, Nat.reduceEqDiff, Int.reduceToNat, Int.reducePow, Int.reduceMul, Int.reduceAdd, Int.reduceSub, Int.reduceNeg, and_true, true_and, decide_true, decide_false, ofO]
        intro v hv
        refine ⟨_, up_get hv hf1, by simp; omega, fun r hr => ?_⟩
        have l6 := l5.trans (Le.new (q := .lst [D.int 0]) hv)
        exact k r _ (l6.trans (Le.new hr)) (l6.was hr) (by rw [up_same]; simp [formL, numO])
      | some ns =>
        obtain ⟨n, r, rfl, n0, n1, hr, hre⟩ := ho ns rfl
        simp only [rVar, rC, rBin, rUn, rTst, rChn, rTru, rAnd, rOr, rNot, rAndV, rOrV, rNotV, rIf, rNil, rCons, rTup, rLst, rFn, rCall, rCallK, rSl, rPrt, rNoP, rMt, gNm, q_gN, q_gC, q_gTp, gSb, rNext, rSeq, rDrop, rRet, rRetN, rBrk, rCnt, rIfS, rSet, rPar, rFor, iSeq, iLst, iRg1, iRg2, iZp, iEn, iStrD, rLc, rYes, q_isi2, q_i2N, q_i2B, q_i2I, q_i2S, q_i2T, q_i2L, q_j2N, q_j2B, q_j2I, q_j2S, q_j2T, q_j2L, q_gt2, q_gtT, q_en, q_int2, q_strD, q_rev, q_ixo, q_ext2, q_extT, En.x, wipeD, start', List.getElem?_cons_zero, List.getElem?_cons_succ, List.set_cons_zero, List.set_cons_succ, List.map_cons, List.map_nil, List.length_cons, List.length_nil, List.cons_append, List.nil_append, List.replicate_succ, List.replicate_zero, id, q_asB, q_asI, q_add, q_addS, q_addT, q_addL, q_int, q_sub, q_mul, q_fdiv, q_mod, q_pow, q_neg, q_le, q_ge, q_gt, q_lt, q_ltT, q_isN, q_isB, q_isBi, q_isBs, q_isBn, q_isBt, q_isnt, n_non, n_bl, n_int, n_str, n_tup, n_ref, q_eq, q_eqS, q_eqB, q_ixT, q_ixK, q_ixL, q_ixS, q_slT, q_slL, q_slS, q_set, q_lenT, q_lenK, q_lenS, q_lenL, q_abs, q_intF, q_max, q_min, q_tupT, q_tupL, q_lstT, q_lstL, q_app, q_ext, q_joinL, q_stw, q_seq, q_lst, q_rng, q_rng2, q_zpT, q_zpL, q_truN, q_truB, q_truI, q_truT, q_truL, t_non, t_bl, t_int, t_str, t_tup, q_isiN, q_isiB, q_isiI, q_isiS, q_isiT, i_NoneType_int, i_NoneType_bool, i_NoneType_tuple, i_NoneType_list, i_NoneType_str, i_bool_int, i_bool_bool, i_bool_tuple, i_bool_list, i_bool_str, i_int_int, i_int_bool, i_int_tuple, i_int_list, i_int_str, i_str_int, i_str_bool, i_str_tuple, i_str_list, i_str_str, i_tuple_int, i_tuple_bool, i_tuple_tuple, i_tuple_list, i_tuple_str, i_list_int, i_list_bool, i_list_tuple, i_list_list, i_list_str, i_dict_int, i_dict_bool, i_dict_tuple, i_dict_list, i_dict_str, up_same, g_02, g_02', g_01, g_11, at_0, at_1, ix_0, ix_1, Option.some.injEq, HQ.lst.injEq, exists_eq_left', exists_eq_left, exists_and_left, exists_eq', exists_eq, decide_eq_true_eq, if_true, if_false, ite_true, ite_false, Bool.false_eq_true, reduceIte, reduceCtorEq, Bool.not_true, Bool.not_false, Nat.zero_add, Nat.reduceAdd, Nat.reduceSub, Nat.reduceLeDiff, Nat.reduceLT, Int.reduceLT, Int.reduceLE, Int.reduceEq, Int.reduceNe, Nat.reduceEqDiff, Int.reduceToNat, Int.reducePow, Int.reduceMul, Int.reduceAdd, Int.reduceSub, Int.reduceNeg, and_true, true_and, decide_true, decide_false, ofO, hf1, t_lst hf1, List.length_map]
        have hes : ∀ e ∈ n :: r.map zz, (0 : Int) ≤ e := by
          intro e he
          rcases List.mem_cons.mp he with rfl | he
          · exact n0
          · obtain ⟨x, _, rfl⟩ := List.mem_map.mp he
            unfold zz; split <;> omega
        refine ⟨by omega, ⟨by omega, by omega⟩, ?_⟩
        refine loop_idx (fun i σ S' => ∃ y y2 y3 : Option D, σ = [some (.tup [.str (Str.ofString "report"), .str z, .int s, .tup (D.int n :: r.map D.int)]), some (.int (plI z)), y, some (.ref f), y2, y3] ∧ i ≤ r.length + 1 ∧ Le S S' ∧
            S' f = some (.lst ((([0, plI z] ++ gI 99 s ++ [((r.length + 1 : Nat) : Int)]) ++ (((n :: r.map zz).take i).map (gI 99)).flatten).map D.int)))
          (fun _ _ _ _ _ => trivial) (fun i x σ S' hx hp' N hN => ?_) (fun σ S' hp' => ?_) ⟨_, _, _, rfl, by omega, l5.put hf0, by rw [up_same]; simp⟩
        · obtain ⟨y1, y2, w5, rfl, hi, l6, hS⟩ := hp'
          obtain ⟨hi2, rfl⟩ := rangeD_get hx
          have hi3 : i < r.length + 1 := by omega
          have step : ∀ (e : Int), (n :: r.map zz)[i]? = some e → ∀ w6 : Option D, sp_law_groups [.int e] S' (fun d S1 => extD2 (D.ref f) [d] S1 fun x S => N [some (.tup [.str (Str.ofString "report"), .str z, .int s, .tup (D.int n :: r.map D.int)]), some (.int (plI z)), y1, some (.ref f), some (.int (0 + (i : Int))), some (.int e)] S) NoX := by
            intro e he w6
            refine ⟨e, rfl, hes e (List.mem_of_getElem? he), fun v S7 l7 hv hS7 => ?_⟩
            simp only [rVar, rC, rBin, rUn, rTst, rChn, rTru, rAnd, rOr, rNot, rAndV, rOrV, rNotV, rIf, rNil, rCons, rTup, rLst, rFn, rCall, rCallK, rSl, rPrt, rNoP, rMt, gNm, q_gN, q_gC, q_gTp, gSb, rNext, rSeq, rDrop, rRet, rRetN, rBrk, rCnt, rIfS, rSet, rPar, rFor, iSeq, iLst, iRg1, iRg2, iZp, iEn, iStrD, rLc, rYes, q_isi2, q_i2N, q_i2B, q_i2I, q_i2S, q_i2T, q_i2L, q_j2N, q_j2B, q_j2I, q_j2S, q_j2T, q_j2L, q_gt2, q_gtT, q_en, q_int2, q_strD, q_rev, q_ixo, q_ext2, q_extT, En.x, wipeD, start', List.getElem?_cons_zero, List.getElem?_cons_succ, List.set_cons_zero, List.set_cons_succ, List.map_cons, List.map_nil, List.length_cons, List.length_nil, List.cons_append, List.nil_append, List.replicate_succ, List.replicate_zero, id, q_asB, q_asI, q_add, q_addS, q_addT, q_addL, q_int, q_sub, q_mul, q_fdiv, q_mod, q_pow, q_neg, q_le, q_ge, q_gt, q_lt, q_ltT, q_isN, q_isB, q_isBi, q_isBs, q_isBn, q_isBt, q_isnt, n_non, n_bl, n_int, n_str, n_tup, n_ref, q_eq, q_eqS, q_eqB, q_ixT, q_ixK, q_ixL, q_ixS, q_slT, q_slL, q_slS, q_set, q_lenT, q_lenK, q_lenS, q_lenL, q_abs, q_intF, q_max, q_min, q_tupT, q_tupL, q_lstT, q_lstL, q_app, q_ext, q_joinL, q_stw, q_seq, q_lst, q_rng, q_rng2, q_zpT, q_zpL, q_truN, q_truB, q_truI, q_truT, q_truL, t_non, t_bl, t_int, t_str, t_tup, q_isiN, q_isiB, q_isiI, q_isiS, q_isiT, i_NoneType_int, i_NoneType_bool, i_NoneType_tuple, i_NoneType_list, i_NoneType_str, i_bool_int, i_bool_bool, i_bool_tuple, i_bool_list, i_bool_str, i_int_int, i_int_bool, i_int_tuple, i_int_list, i_int_str, i_str_int, i_str_bool, i_str_tuple, i_str_list, i_str_str, i_tuple_int, i_tuple_bool, i_tuple_tuple, i_tuple_list, i_tuple_str, i_list_int, i_list_bool, i_list_tuple, i_list_list, i_list_str, i_dict_int, i_dict_bool, i_dict_tuple, i_dict_list, i_dict_str, up_same, g_02, g_02', g_01, g_11, at_0, at_1, ix_0, ix_1, Option.some.injEq, HQ.lst.injEq, exists_eq_left', exists_eq_left, exists_and_left, exists_eq', exists_eq, decide_eq_true_eq, if_true, if_false, ite_true, ite_false, Bool.false_eq_true, reduceIte, reduceCtorEq, Bool.not_true, Bool.not_false, Nat.zero_add, Nat.reduceAdd, Nat.reduceSub, Nat.reduceLeDiff, Nat.reduceLT, Int.reduceLT, Int.reduceLE, Int.reduceEq, Int.reduceNe, Nat.reduceEqDiff, Int.reduceToNat, Int.reducePow, Int.reduceMul, Int.reduceAdd, Int.reduceSub, Int.reduceNeg, and_true, true_and, decide_true, decide_false]
            have et : (n :: r.map zz).take (i + 1) = (n :: r.map zz).take i ++ [e] := by rw [List.take_add_one, he]; rfl
            have b1 := flat_len (k := 100) (gI 99) (fun e => gI_len) ((n :: r.map zz).take i)
            have b2 := gI_len (k := 99) (w := e)
            have b3 : ((n :: r.map zz).take i).length ≤ 101 := by rw [List.length_take]; simp; omega
            refine ⟨_, l7 f _ hS, _, hS7, ?_, hN _ _ ⟨_, _, _, rfl, by omega, (l6.trans l7).put hf0, ?_⟩⟩
            · simp only [List.length_map, List.length_append, List.length_cons, List.length_nil]; omega
            · rw [up_same, et]; simp
          cases i with
          | zero =>
            have a0 : atI (D.int n :: r.map D.int) (0 + ((0 : Nat) : Int)) = some (.int n) := by first | exact at_0 | rfl
            have z0 : decide ((0 : Int) < 0 + ((0 : Nat) : Int)) = false := by decide
            simp only [rVar, rC, rBin, rUn, rTst, rChn, rTru, rAnd, rOr, rNot, rAndV, rOrV, rNotV, rIf, rNil, rCons, rTup, rLst, rFn, rCall, rCallK, rSl, rPrt, rNoP, rMt, gNm, q_gN, q_gC, q_gTp, gSb, rNext, rSeq, rDrop, rRet, rRetN, rBrk, rCnt, rIfS, rSet, rPar, rFor, iSeq, iLst, iRg1, iRg2, iZp, iEn, iStrD, rLc, rYes, q_isi2, q_i2N, q_i2B, q_i2I, q_i2S, q_i2T, q_i2L, q_j2N, q_j2B, q_j2I, q_j2S, q_j2T, q_j2L, q_gt2, q_gtT, q_en, q_int2, q_strD, q_rev, q_ixo, q_ext2, q_extT, En.x, wipeD, start', List.getElem?_cons_zero, List.getElem?_cons_succ, List.set_cons_zero, List.set_cons_succ, List.map_cons, List.map_nil, List.length_cons, List.length_nil, List.cons_append, List.nil_append, List.replicate_succ, List.replicate_zero, id, q_asB, q_asI, q_add, q_addS, q_addT, q_addL, q_int, q_sub, q_mul, q_fdiv, q_mod, q_pow, q_neg, q_le, q_ge, q_gt, q_lt, q_ltT, q_isN, q_isB, q_isBi, q_isBs, q_isBn, q_isBt, q_isnt, n_non, n_bl, n_int, n_str, n_tup, n_ref, q_eq, q_eqS, q_eqB, q_ixT, q_ixK, q_ixL, q_ixS, q_slT, q_slL, q_slS, q_set, q_lenT, q_lenK, q_lenS, q_lenL, q_abs, q_intF, q_max, q_min, q_tupT, q_tupL, q_lstT, q_lstL, q_app, q_ext, q_joinL, q_stw, q_seq, q_lst, q_rng, q_rng2, q_zpT, q_zpL, q_truN, q_truB, q_truI, q_truT, q_truL, t_non, t_bl, t_int, t_str, t_tup, q_isiN, q_isiB, q_isiI, q_isiS, q_isiT, i_NoneType_int, i_NoneType_bool, i_NoneType_tuple, i_NoneType_list, i_NoneType_str, i_bool_int, i_bool_bool, i_bool_tuple, i_bool_list, i_bool_str, i_int_int, i_int_bool, i_int_tuple, i_int_list, i_int_str, i_str_int, i_str_bool, i_str_tuple, i_str_list, i_str_str, i_tuple_int, i_tuple_bool, i_tuple_tuple, i_tuple_list, i_tuple_str, i_list_int, i_list_bool, i_list_tuple, i_list_list, i_list_str, i_dict_int, i_dict_bool, i_dict_tuple, i_dict_list, i_dict_str, up_same, g_02, g_02', g_01, g_11, at_0, at_1, ix_0, ix_1, Option.some.injEq, HQ.lst.injEq, exists_eq_left', exists_eq_left, exists_and_left, exists_eq', exists_eq, decide_eq_true_eq, if_true, if_false, ite_true, ite_false, Bool.false_eq_true, reduceIte, reduceCtorEq, Bool.not_true, Bool.not_false, Nat.zero_add, Nat.reduceAdd, Nat.reduceSub, Nat.reduceLeDiff, Nat.reduceLT, Int.reduceLT, Int.reduceLE, Int.reduceEq, Int.reduceNe, Nat.reduceEqDiff, Int.reduceToNat, Int.reducePow, Int.reduceMul, Int.reduceAdd, Int.reduceSub, Int.reduceNeg, and_true, true_and, decide_true, decide_false, at_3, a0, z0, t_lst hS]
            exact step n rfl none
          | succ j =>
            have hj : j < r.length := by omega
            have a1 : atI (D.int n :: r.map D.int) (0 + ((j + 1 : Nat) : Int)) = some (.int r[j]) := by
              rw [Int.zero_add]
              exact atI_nat (by rw [List.getElem?_cons_succ, List.getElem?_map, List.getElem?_eq_getElem hj]; rfl)
            have z0 : decide ((0 : Int) < 0 + ((j + 1 : Nat) : Int)) = true := decide_eq_true (by omega)
            have he : (n :: r.map zz)[j + 1]? = some (zz r[j]) := by rw [List.getElem?_cons_succ, List.getElem?_map, List.getElem?_eq_getElem hj]; rfl
            simp only [rVar, rC, rBin, rUn, rTst, rChn, rTru, rAnd, rOr, rNot, rAndV, rOrV, rNotV, rIf, rNil, rCons, rTup, rLst, rFn, rCall, rCallK, rSl, rPrt, rNoP, rMt, gNm, q_gN, q_gC, q_gTp, gSb, rNext, rSeq, rDrop, rRet, rRetN, rBrk, rCnt, rIfS, rSet, rPar, rFor, iSeq, iLst, iRg1, iRg2, iZp, iEn, iStrD, rLc, rYes, q_isi2, q_i2N, q_i2B, q_i2I, q_i2S, q_i2T, q_i2L, q_j2N, q_j2B, q_j2I, q_j2S, q_j2T, q_j2L, q_gt2, q_gtT, q_en, q_int2, q_strD, q_rev, q_ixo, q_ext2, q_extT, En.x, wipeD, start', List.getElem?_cons_zero, List.getElem?_cons_succ, List.set_cons_zero, List.set_cons_succ, List.map_cons, List.map_nil, List.length_cons, List.length_nil, List.cons_append, List.nil_append, List.replicate_succ, List.replicate_zero, id, q_asB, q_asI, q_add, q_addS, q_addT, q_addL, q_int, q_sub, q_mul, q_fdiv, q_mod, q_pow, q_neg, q_le, q_ge, q_gt, q_lt, q_ltT, q_isN, q_isB, q_isBi, q_isBs, q_isBn, q_isBt, q_isnt, n_non, n_bl, n_int, n_str, n_tup, n_ref, q_eq, q_eqS, q_eqB, q_ixT, q_ixK, q_ixL, q_ixS, q_slT, q_slL, q_slS, q_set, q_lenT, q_lenK, q_lenS, q_lenL, q_abs, q_intF, q_max, q_min, q_tupT, q_tupL, q_lstT, q_lstL, q_app, q_ext, q_joinL, q_stw, q_seq, q_lst, q_rng, q_rng2, q_zpT, q_zpL, q_truN, q_truB, q_truI, q_truT, q_truL, t_non, t_bl, t_int, t_str, t_tup, q_isiN, q_isiB, q_isiI, q_isiS, q_isiT, i_NoneType_int, i_NoneType_bool, i_NoneType_tuple, i_NoneType_list, i_NoneType_str, i_bool_int, i_bool_bool, i_bool_tuple, i_bool_list, i_bool_str, i_int_int, i_int_bool, i_int_tuple, i_int_list, i_int_str, i_str_int, i_str_bool, i_str_tuple, i_str_list, i_str_str, i_tuple_int, i_tuple_bool, i_tuple_tuple, i_tuple_list, i_tuple_str, i_list_int, i_list_bool, i_list_tuple, i_list_list, i_list_str, i_dict_int, i_dict_bool, i_dict_tuple, i_dict_list, i_dict_str, up_same, g_02, g_02', g_01, g_11, at_0, at_1, ix_0, ix_1, Option.some.injEq, HQ.lst.injEq, exists_eq_left', exists_eq_left, exists_and_left, exists_eq', exists_eq, decide_eq_true_eq, if_true, if_false, ite_true, ite_false, Bool.false_eq_true, reduceIte, reduceCtorEq, Bool.not_true, Bool.not_false, Nat.zero_add, Nat.reduceAdd, Nat.reduceSub, Nat.reduceLeDiff, Nat.reduceLT, Int.reduceLT, Int.reduceLE, Int.reduceEq, Int.reduceNe, Nat.reduceEqDiff, Int.reduceToNat, Int.reducePow, Int.reduceMul, Int.reduceAdd, Int.reduceSub, Int.reduceNeg, and_true, true_and, decide_true, decide_false, at_3, a1, z0, t_lst hS]
            by_cases c : (0 : Int) ≤ r[j]
            · simp only [c, rVar, rC, rBin, rUn, rTst, rChn, rTru, rAnd, rOr, rNot, rAndV, rOrV, rNotV, rIf, rNil, rCons, rTup, rLst, rFn, rCall, rCallK, rSl, rPrt, rNoP, rMt, gNm, q_gN, q_gC, q_gTp, gSb, rNext, rSeq, rDrop, rRet, rRetN, rBrk, rCnt, rIfS, rSet, rPar, rFor, iSeq, iLst, iRg1, iRg2, iZp, iEn, iStrD, rLc, rYes, q_isi2, q_i2N, q_i2B, q_i2I, q_i2S, q_i2T, q_i2L, q_j2N, q_j2B, q_j2I, q_j2S, q_j2T, q_j2L, q_gt2, q_gtT, q_en, q_int2, q_strD, q_rev, q_ixo, q_ext2, q_extT, En.x, wipeD, start', List.getElem?_cons_zero, List.getElem?_cons_succ, List.set_cons_zero, List.set_cons_succ, List.map_cons, List.map_nil, List.length_cons, List.length_nil, List.cons_append, List.nil_append, List.replicate_succ, List.replicate_zero, id, q_asB, q_asI, q_add, q_addS, q_addT, q_addL, q_int, q_sub, q_mul, q_fdiv, q_mod, q_pow, q_neg, q_le, q_ge, q_gt, q_lt, q_ltT, q_isN, q_isB, q_isBi, q_isBs, q_isBn, q_isBt, q_isnt, n_non, n_bl, n_int, n_str, n_tup, n_ref, q_eq, q_eqS, q_eqB, q_ixT, q_ixK, q_ixL, q_ixS, q_slT, q_slL, q_slS, q_set, q_lenT, q_lenK, q_lenS, q_lenL, q_abs, q_intF, q_max, q_min, q_tupT, q_tupL, q_lstT, q_lstL, q_app, q_ext, q_joinL, q_stw, q_seq, q_lst, q_rng, q_rng2, q_zpT, q_zpL, q_truN, q_truB, q_truI, q_truT, q_truL, t_non, t_bl, t_int, t_str, t_tup, q_isiN, q_isiB, q_isiI, q_isiS, q_isiT, i_NoneType_int, i_NoneType_bool, i_NoneType_tuple, i_NoneType_list, i_NoneType_str, i_bool_int, i_bool_bool, i_bool_tuple, i_bool_list, i_bool_str, i_int_int, i_int_bool, i_int_tuple, i_int_list, i_int_str, i_str_int, i_str_bool, i_str_tuple, i_str_list, i_str_str, i_tuple_int, i_tuple_bool, i_tuple_tuple, i_tuple_list, i_tuple_str, i_list_int, i_list_bool, i_list_tuple, i_list_list, i_list_str, i_dict_int, i_dict_bool, i_dict_tuple, i_dict_list, i_dict_str, up_same, g_02, g_02', g_01, g_11, at_0, at_1, ix_0, ix_1, Option.some.injEq, HQ.lst.injEq, exists_eq_left', exists_eq_left, exists_and_left, exists_eq', exists_eq, decide_eq_true_eq, if_true, if_false, ite_true, ite_false, Bool.false_eq_true, reduceIte, reduceCtorEq, Bool.not_true, Bool.not_false, Nat.zero_add, Nat.reduceAdd, Nat.reduceSub, Nat.reduceLeDiff, Nat.reduceLT, Int.reduceLT, Int.reduceLE, Int.reduceEq, Int.reduceNe, Nat.reduceEqDiff, Int.reduceToNat, Int.reducePow, Int.reduceMul, Int.reduceAdd, Int.reduceSub, Int.reduceNeg, and_true, true_and, decide_true, decide_false]
              have : 2 * r[j] = zz r[j] := (if_pos c).symm
              rw [this]
              exact ⟨cm_l (by decide) (by decide), step _ he none⟩
            · simp only [c, rVar, rC, rBin, rUn, rTst, rChn, rTru, rAnd, rOr, rNot, rAndV, rOrV, rNotV, rIf, rNil, rCons, rTup, rLst, rFn, rCall, rCallK, rSl, rPrt, rNoP, rMt, gNm, q_gN, q_gC, q_gTp, gSb, rNext, rSeq, rDrop, rRet, rRetN, rBrk, rCnt, rIfS, rSet, rPar, rFor, iSeq, iLst, iRg1, iRg2, iZp, iEn, iStrD, rLc, rYes, q_isi2, q_i2N, q_i2B, q_i2I, q_i2S, q_i2T, q_i2L, q_j2N, q_j2B, q_j2I, q_j2S, q_j2T, q_j2L, q_gt2, q_gtT, q_en, q_int2, q_strD, q_rev, q_ixo, q_ext2, q_extT, En.x, wipeD, start', List.getElem?_cons_zero, List.getElem?_cons_succ, List.set_cons_zero, List.set_cons_succ, List.map_cons, List.map_nil, List.length_cons, List.length_nil, List.cons_append, List.nil_append, List.replicate_succ, List.replicate_zero, id, q_asB, q_asI, q_add, q_addS, q_addT, q_addL, q_int, q_sub, q_mul, q_fdiv, q_mod, q_pow, q_neg, q_le, q_ge, q_gt, q_lt, q_ltT, q_isN, q_isB, q_isBi, q_isBs, q_isBn, q_isBt, q_isnt, n_non, n_bl, n_int, n_str, n_tup, n_ref, q_eq, q_eqS, q_eqB, q_ixT, q_ixK, q_ixL, q_ixS, q_slT, q_slL, q_slS, q_set, q_lenT, q_lenK, q_lenS, q_lenL, q_abs, q_intF, q_max, q_min, q_tupT, q_tupL, q_lstT, q_lstL, q_app, q_ext, q_joinL, q_stw, q_seq, q_lst, q_rng, q_rng2, q_zpT, q_zpL, q_truN, q_truB, q_truI, q_truT, q_truL, t_non, t_bl, t_int, t_str, t_tup, q_isiN, q_isiB, q_isiI, q_isiS, q_isiT, i_NoneType_int, i_NoneType_bool, i_NoneType_tuple, i_NoneType_list, i_NoneType_str, i_bool_int, i_bool_bool, i_bool_tuple, i_bool_list, i_bool_str, i_int_int, i_int_bool, i_int_tuple, i_int_list, i_int_str, i_str_int, i_str_bool, i_str_tuple, i_str_list, i_str_str, i_tuple_int, i_tuple_bool, i_tuple_tuple, i_tuple_list, i_tuple_str, i_list_int, i_list_bool, i_list_tuple, i_list_list, i_list_str, i_dict_int, i_dict_bool, i_dict_tuple, i_dict_list, i_dict_str, up_same, g_02, g_02', g_01, g_11, at_0, at_1, ix_0, ix_1, Option.some.injEq, HQ.lst.injEq, exists_eq_left', exists_eq_left, exists_and_left, exists_eq', exists_eq, decide_eq_true_eq, if_true, if_false, ite_true, ite_false, Bool.false_eq_true, reduceIte, reduceCtorEq, Bool.not_true, Bool.not_false, Nat.zero_add, Nat.reduceAdd, Nat.reduceSub, Nat.reduceLeDiff, Nat.reduceLT, Int.reduceLT, Int.reduceLE, Int.reduceEq, Int.reduceNe, Nat.reduceEqDiff, Int.reduceToNat, Int.reducePow, Int.reduceMul, Int.reduceAdd, Int.reduceSub, Int.reduceNeg, and_true, true_and, decide_true, decide_false]
              have : 0 - 2 * r[j] - 1 = zz r[j] := by unfold zz; rw [if_neg c]; omega
              rw [this]
              exact ⟨cm_l (by decide) (by decide), step _ he none⟩
        · obtain ⟨y1, y2, w5, rfl, hi, l6, hS⟩ := hp'
          rw [rangeD_len] at hS
          have eT : (n :: r.map zz).take (((r.length + 1 : Nat) : Int)).toNat = n :: r.map zz := by
            rw [Int.toNat_natCast]; exact List.take_of_length_le (by simp)
          simp only [rVar, rC, rBin, rUn, rTst, rChn, rTru, rAnd, rOr, rNot, rAndV, rOrV, rNotV, rIf, rNil, rCons, rTup, rLst, rFn, rCall, rCallK, rSl, rPrt, rNoP, rMt, gNm, q_gN, q_gC, q_gTp, gSb, rNext, rSeq, rDrop, rRet, rRetN, rBrk, rCnt, rIfS, rSet, rPar, rFor, iSeq, iLst, iRg1, iRg2, iZp, iEn, iStrD, rLc, rYes, q_isi2, q_i2N, q_i2B, q_i2I, q_i2S, q_i2T, q_i2L, q_j2N, q_j2B, q_j2I, q_j2S, q_j2T, q_j2L, q_gt2, q_gtT, q_en, q_int2, q_strD, q_rev, q_ixo, q_ext2, q_extT, En.x, wipeD, start', List.getElem?_cons_zero, List.getElem?_cons_succ, List.set_cons_zero, List.set_cons_succ, List.map_cons, List.map_nil, List.length_cons, List.length_nil, List.cons_append, List.nil_append, List.replicate_succ, List.replicate_zero, id, q_asB, q_asI, q_add, q_addS, q_addT, q_addL, q_int, q_sub, q_mul, q_fdiv, q_mod, q_pow, q_neg, q_le, q_ge, q_gt, q_lt, q_ltT, q_isN, q_isB, q_isBi, q_isBs, q_isBn, q_isBt, q_isnt, n_non, n_bl, n_int, n_str, n_tup, n_ref, q_eq, q_eqS, q_eqB, q_ixT, q_ixK, q_ixL, q_ixS, q_slT, q_slL, q_slS, q_set, q_lenT, q_lenK, q_lenS, q_lenL, q_abs, q_intF, q_max, q_min, q_tupT, q_tupL, q_lstT, q_lstL, q_app, q_ext, q_joinL, q_stw, q_seq, q_lst, q_rng, q_rng2, q_zpT, q_zpL, q_truN, q_truB, q_truI, q_truT, q_truL, t_non, t_bl, t_int, t_str, t_tup, q_isiN, q_isiB, q_isiI, q_isiS, q_isiT, i_NoneType_int, i_NoneType_bool, i_NoneType_tuple, i_NoneType_list, i_NoneType_str, i_bool_int, i_bool_bool, i_bool_tuple, i_bool_list, i_bool_str, i_int_int, i_int_bool, i_int_tuple, i_int_list, i_int_str, i_str_int, i_str_bool, i_str_tuple, i_str_list, i_str_str, i_tuple_int, i_tuple_bool, i_tuple_tuple, i_tuple_list, i_tuple_str, i_list_int, i_list_bool, i_list_tuple, i_list_list, i_list_str, i_dict_int, i_dict_bool, i_dict_tuple, i_dict_list, i_dict_str, up_same, g_02, g_02', g_01, g_11, at_0, at_1, ix_0, ix_1, Option.some.injEq, HQ.lst.injEq, exists_eq_left', exists_eq_left, exists_and_left, exists_eq', exists_eq, decide_eq_true_eq, if_true, if_false, ite_true, ite_false, Bool.false_eq_true, reduceIte, reduceCtorEq, Bool.not_true, Bool.not_false, Nat.zero_add, Nat.reduceAdd, Nat.reduceSub, Nat.reduceLeDiff, Nat.reduceLT, Int.reduceLT, Int.reduceLE, Int.reduceEq, Int.reduceNe, Nat.reduceEqDiff, Int.reduceToNat, Int.reducePow, Int.reduceMul, Int.reduceAdd, Int.reduceSub, Int.reduceNeg, and_true, true_and, decide_true, decide_false]
          rw [eT] at hS
          refine k f _ l6 hf0 ?_
          rw [hS]
          simp only [formL, numO_es]
          simp

def sp_law_joined : Sq := fun ds S Q _ => ∃ (q : Addr) (ls : List Lt), ds = [.ref q] ∧ S q = some (.lst (ls.map letD)) ∧ (∀ l ∈ ls, LtOk l) ∧ ls.length ≤ 30 ∧ ∀ p S', Le S S' → S p = none → S' p = some (.lst (((ls.map formL).flatten).map D.int)) → Q (.ref p) S'
theorem ln_law_joined : ∀ ds S Q E, sp_law_joined ds S Q E → ds.length = 1 := by rintro _ _ _ _ ⟨b, _, rfl, _⟩; rfl
theorem nx_law_joined : ∀ ds S Q E, sp_law_joined ds S Q E → sp_law_joined ds S Q NoX := fun _ _ _ _ h => h

def rd_law_joined : RSt :=
 (rSeq (rSet (rLst rNil) (gNm 1))
 (rSeq (rFor (iLst (rVar 0)) (gNm 2)
 (rDrop (rMt "list" extD2 (rVar 1) (rCons (rCall sp_law_form (rCons (rVar 2) rNil)) rNil))))
 (rRet (rVar 1))))

theorem pu_law_joined : ∀ ds S Q, sp_law_joined ds S Q NoX → rd_law_joined { nx := fun _ S => Q .non S, rt := Q } (start' 3 ds) S := by

  rintro _ S Q ⟨u, ls, rfl, hu, hok, hl, k⟩
  unfold rd_law_joined
  simp only [rVar, rC, rBin, rUn, rTst, rChn, rTru, rAnd, rOr, rNot, rAndV, rOrV, rNotV, rIf, rNil, rCons, rTup, rLst, rFn, rCall, rCallK, rSl, rPrt, rNoP, rMt, gNm, q_gN, q_gC, q_gTp, gSb, rNext, rSeq, rDrop, rRet, rRetN, rBrk, rCnt, rIfS, rSet, rPar, rFor, iSeq, iLst, iRg1, iRg2, iZp, iEn, iStrD, rLc, rYes, q_isi2, q_i2N, q_i2B, q_i2I, q_i2S, q_i2T, q_i2L, q_j2N, q_j2B, q_j2I, q_j2S, q_j2T, q_j2L, q_gt2, q_gtT, q_en, q_int2, q_strD, q_rev, q_ixo, q_ext2, q_extT, En.x, wipeD, start', List.getElem?_cons_zero, List.getElem?_cons_succ, List.set_cons_zero, List.set_cons_succ, List.map_cons, List.map_nil, List.length_cons, List.length_nil, List.cons_append, List.nil_append, List.replicate_succ, List.replicate_zero, id, q_asB, q_asI, q_add, q_addS, q_addT, q_addL, q_int, q_sub, q_mul, q_fdiv, q_mod, q_pow, q_neg, q_le, q_ge, q_gt, q_lt, q_ltT, q_isN, q_isB, q_isBi, q_isBs, q_isBn, q_isBt, q_isnt, n_non, n_bl, n_int, n_str, n_tup, n_ref, q_eq, q_eqS, q_eqB, q_ixT, q_ixK, q_ixL, q_ixS, q_slT, q_slL, q_slS, q_set, q_lenT, q_lenK, q_lenS, q_lenL, q_abs, q_intF, q_max, q_min, q_tupT, q_tupL, q_lstT, q_lstL, q_app, q_ext, q_joinL, q_stw, q_seq, q_lst, q_rng, q_rng2, q_zpT, q_zpL, q_truN, q_truB, q_truI, q_truT, q_truL, t_non, t_bl, t_int, t_str, t_tup, q_isiN, q_isiB, q_isiI, q_isiS, q_isiT, i_NoneType_int, i_NoneType_bool, i_NoneType_tuple, i_NoneType_list, i_NoneType_str, i_bool_int, i_bool_bool, i_bool_tuple, i_bool_list, i_bool_str, i_int_int, i_int_bool, i_int_tuple, i_int_list, i_int_str, i_str_int, i_str_bool, i_str_tuple, i_str_list, i_str_str, i_tuple_int, i_tuple_bool, i_tuple_tuple, i_tuple_list, i_tuple_str, i_list_int, i_list_bool, i_list_tuple, i_list_list, i_list_str, i_dict_int, i_dict_bool, i_dict_tuple, i_dict_list, i_dict_str, up_same, g_02, g_02', g_01, g_11, at_0, at_1, ix_0, ix_1, Option.some.injEq, HQ.lst.injEq, exists_eq_left', exists_eq_left, exists_and_left, exists_eq', exists_eq, decide_eq_true_eq, if_true, if_false, ite_true, ite_false, Bool.false_eq_true, reduceIte, reduceCtorEq, Bool.not_true, Bool.not_false, Nat.zero_add, Nat.reduceAdd, Nat.reduceSub, Nat.reduceLeDiff, Nat.reduceLT, Int.reduceLT, Int.reduceLE, Int.reduceEq, Int.reduceNe, Nat.reduceEqDiff, Int.reduceToNat, Int.reducePow, Int.reduceMul, Int.reduceAdd, Int.reduceSub, Int.reduceNeg, and_true, true_and, decide_true, decide_false]
  intro p hp
  refine ⟨_, up_get hp hu, ?_⟩
  refine loop_idx (fun i σ S' => ∃ y : Option D, σ = [some (.ref u), some (.ref p), y] ∧ Le S S' ∧ S' p = some (.lst ((((ls.take i).map formL).flatten).map D.int)))
    (fun _ _ _ _ h => by obtain ⟨y, _, l1, _⟩ := h; exact l1 u _ hu) (fun i x σ S' hx hp' N hN => ?_) (fun σ S' hp' => ?_) ⟨_, rfl, Le.new hp, by rw [up_same]; rfl⟩
  · obtain ⟨y, rfl, l1, hS⟩ := hp'
    rw [List.getElem?_map] at hx
    cases he : ls[i]? with
    | none => rw [he] at hx; cases hx
    | some e =>
      rw [he] at hx; cases hx
      have et : ls.take (i + 1) = ls.take i ++ [e] := by rw [List.take_add_one, he]; rfl
      have hb := hok e (List.mem_of_getElem? he)
      simp only [rVar, rC, rBin, rUn, rTst, rChn, rTru, rAnd, rOr, rNot, rAndV, rOrV, rNotV, rIf, rNil, rCons, rTup, rLst, rFn, rCall, rCallK, rSl, rPrt, rNoP, rMt, gNm, q_gN, q_gC, q_gTp, gSb, rNext, rSeq, rDrop, rRet, rRetN, rBrk, rCnt, rIfS, rSet, rPar, rFor, iSeq, iLst, iRg1, iRg2, iZp, iEn, iStrD, rLc, rYes, q_isi2, q_i2N, q_i2B, q_i2I, q_i2S, q_i2T, q_i2L, q_j2N, q_j2B, q_j2I, q_j2S, q_j2T, q_j2L, q_gt2, q_gtT, q_en, q_int2, q_strD, q_rev, q_ixo, q_ext2, q_extT, En.x, wipeD, start', List.getElem?_cons_zero, List.getElem?_cons_succ, List.set_cons_zero, List.set_cons_succ, List.map_cons, List.map_nil, List.length_cons, List.length_nil, List.cons_append, List.nil_append, List.replicate_succ, List.replicate_zero, id, q_asB, q_asI, q_add, q_addS, q_addT, q_addL, q_int, q_sub, q_mul, q_fdiv, q_mod, q_pow, q_neg, q_le, q_ge, q_gt, q_lt, q_ltT, q_isN, q_isB, q_isBi, q_isBs, q_isBn, q_isBt, q_isnt, n_non, n_bl, n_int, n_str, n_tup, n_ref, q_eq, q_eqS, q_eqB, q_ixT, q_ixK, q_ixL, q_ixS, q_slT, q_slL, q_slS, q_set, q_lenT, q_lenK, q_lenS, q_lenL, q_abs, q_intF, q_max, q_min, q_tupT, q_tupL, q_lstT, q_lstL, q_app, q_ext, q_joinL, q_stw, q_seq, q_lst, q_rng, q_rng2, q_zpT, q_zpL, q_truN, q_truB, q_truI, q_truT, q_truL, t_non, t_bl, t_int, t_str, t_tup, q_isiN, q_isiB, q_isiI, q_isiS, q_isiT, i_NoneType_int, i_NoneType_bool, i_NoneType_tuple, i_NoneType_list, i_NoneType_str, i_bool_int, i_bool_bool, i_bool_tuple, i_bool_list, i_bool_str, i_int_int, i_int_bool, i_int_tuple, i_int_list, i_int_str, i_str_int, i_str_bool, i_str_tuple, i_str_list, i_str_str, i_tuple_int, i_tuple_bool, i_tuple_tuple, i_tuple_list, i_tuple_str, i_list_int, i_list_bool, i_list_tuple, i_list_list, i_list_str, i_dict_int, i_dict_bool, i_dict_tuple, i_dict_list, i_dict_str, up_same, g_02, g_02', g_01, g_11, at_0, at_1, ix_0, ix_1, Option.some.injEq, HQ.lst.injEq, exists_eq_left', exists_eq_left, exists_and_left, exists_eq', exists_eq, decide_eq_true_eq, if_true, if_false, ite_true, ite_false, Bool.false_eq_true, reduceIte, reduceCtorEq, Bool.not_true, Bool.not_false, Nat.zero_add, Nat.reduceAdd, Nat.reduceSub, Nat.reduceLeDiff, Nat.reduceLT, Int.reduceLT, Int.reduceLE, Int.reduceEq, Int.reduceNe, Nat.reduceEqDiff, Int.reduceToNat, Int.reducePow, Int.reduceMul, Int.reduceAdd, Int.reduceSub, Int.reduceNeg, and_true, true_and, decide_true, decide_false]
      refine ⟨t_lst hS, e, rfl, hb, fun v S2 l2 hv hS2 => ?_⟩
      have h1 := forms_take hok hl i
      have h2 := formL_len hb
      simp only [rVar, rC, rBin, rUn, rTst, rChn, rTru, rAnd, rOr, rNot, rAndV, rOrV, rNotV, rIf, rNil, rCons, rTup, rLst, rFn, rCall, rCallK, rSl, rPrt, rNoP, rMt, gNm, q_gN, q_gC, q_gTp, gSb, rNext, rSeq, rDrop, rRet, rRetN, rBrk, rCnt, rIfS, rSet, rPar, rFor, iSeq, iLst, iRg1, iRg2, iZp, iEn, iStrD, rLc, rYes, q_isi2, q_i2N, q_i2B, q_i2I, q_i2S, q_i2T, q_i2L, q_j2N, q_j2B, q_j2I, q_j2S, q_j2T, q_j2L, q_gt2, q_gtT, q_en, q_int2, q_strD, q_rev, q_ixo, q_ext2, q_extT, En.x, wipeD, start', List.getElem?_cons_zero, List.getElem?_cons_succ, List.set_cons_zero, List.set_cons_succ, List.map_cons, List.map_nil, List.length_cons, List.length_nil, List.cons_append, List.nil_append, List.replicate_succ, List.replicate_zero, id, q_asB, q_asI, q_add, q_addS, q_addT, q_addL, q_int, q_sub, q_mul, q_fdiv, q_mod, q_pow, q_neg, q_le, q_ge, q_gt, q_lt, q_ltT, q_isN, q_isB, q_isBi, q_isBs, q_isBn, q_isBt, q_isnt, n_non, n_bl, n_int, n_str, n_tup, n_ref, q_eq, q_eqS, q_eqB, q_ixT, q_ixK, q_ixL, q_ixS, q_slT, q_slL, q_slS, q_set, q_lenT, q_lenK, q_lenS, q_lenL, q_abs, q_intF, q_max, q_min, q_tupT, q_tupL, q_lstT, q_lstL, q_app, q_ext, q_joinL, q_stw, q_seq, q_lst, q_rng, q_rng2, q_zpT, q_zpL, q_truN, q_truB, q_truI, q_truT, q_truL, t_non, t_bl, t_int, t_str, t_tup, q_isiN, q_isiB, q_isiI, q_isiS, q_isiT, i_NoneType_int, i_NoneType_bool, i_NoneType_tuple, i_NoneType_list, i_NoneType_str, i_bool_int, i_bool_bool, i_bool_tuple, i_bool_list, i_bool_str, i_int_int, i_int_bool, i_int_tuple, i_int_list, i_int_str, i_str_int, i_str_bool, i_str_tuple, i_str_list, i_str_str, i_tuple_int, i_tuple_bool, i_tuple_tuple, i_tuple_list, i_tuple_str, i_list_int, i_list_bool, i_list_tuple, i_list_list, i_list_str, i_dict_int, i_dict_bool, i_dict_tuple, i_dict_list, i_dict_str, up_same, g_02, g_02', g_01, g_11, at_0, at_1, ix_0, ix_1, Option.some.injEq, HQ.lst.injEq, exists_eq_left', exists_eq_left, exists_and_left, exists_eq', exists_eq, decide_eq_true_eq, if_true, if_false, ite_true, ite_false, Bool.false_eq_true, reduceIte, reduceCtorEq, Bool.not_true, Bool.not_false, Nat.zero_add, Nat.reduceAdd, Nat.reduceSub, Nat.reduceLeDiff, Nat.reduceLT, Int.reduceLT, Int.reduceLE, Int.reduceEq, Int.reduceNe, Nat.reduceEqDiff, Int.reduceToNat, Int.reducePow, Int.reduceMul, Int.reduceAdd, Int.reduceSub, Int.reduceNeg, and_true, true_and, decide_true, decide_false]
      refine ⟨_, l2 p _ hS, _, hS2, by rw [List.length_map, List.length_map]; omega, hN _ _ ⟨_, rfl, ?_, ?_⟩⟩
      · intro a o ha
        rw [up_ne (ne_get ha hp)]
        exact l2 a o (l1 a o ha)
      · rw [up_same, et]; simp
  · obtain ⟨y, rfl, l1, hS⟩ := hp'
    rw [List.length_map, List.take_length] at hS
    simp only [rVar, rC, rBin, rUn, rTst, rChn, rTru, rAnd, rOr, rNot, rAndV, rOrV, rNotV, rIf, rNil, rCons, rTup, rLst, rFn, rCall, rCallK, rSl, rPrt, rNoP, rMt, gNm, q_gN, q_gC, q_gTp, gSb, rNext, rSeq, rDrop, rRet, rRetN, rBrk, rCnt, rIfS, rSet, rPar, rFor, iSeq, iLst, iRg1, iRg2, iZp, iEn, iStrD, rLc, rYes, q_isi2, q_i2N, q_i2B, q_i2I, q_i2S, q_i2T, q_i2L, q_j2N, q_j2B, q_j2I, q_j2S, q_j2T, q_j2L, q_gt2, q_gtT, q_en, q_int2, q_strD, q_rev, q_ixo, q_ext2, q_extT, En.x, wipeD, start', List.getElem?_cons_zero, List.getElem?_cons_succ, List.set_cons_zero, List.set_cons_succ, List.map_cons, List.map_nil, List.length_cons, List.length_nil, List.cons_append, List.nil_append, List.replicate_succ, List.replicate_zero, id, q_asB, q_asI, q_add, q_addS, q_addT, q_addL, q_int, q_sub, q_mul, q_fdiv, q_mod, q_pow, q_neg, q_le, q_ge, q_gt, q_lt, q_ltT, q_isN, q_isB, q_isBi, q_isBs, q_isBn, q_isBt, q_isnt, n_non, n_bl, n_int, n_str, n_tup, n_ref, q_eq, q_eqS, q_eqB, q_ixT, q_ixK, q_ixL, q_ixS, q_slT, q_slL, q_slS, q_set, q_lenT, q_lenK, q_lenS, q_lenL, q_abs, q_intF, q_max, q_min, q_tupT, q_tupL, q_lstT, q_lstL, q_app, q_ext, q_joinL, q_stw, q_seq, q_lst, q_rng, q_rng2, q_zpT, q_zpL, q_truN, q_truB, q_truI, q_truT, q_truL, t_non, t_bl, t_int, t_str, t_tup, q_isiN, q_isiB, q_isiI, q_isiS, q_isiT, i_NoneType_int, i_NoneType_bool, i_NoneType_tuple, i_NoneType_list, i_NoneType_str, i_bool_int, i_bool_bool, i_bool_tuple, i_bool_list, i_bool_str, i_int_int, i_int_bool, i_int_tuple, i_int_list, i_int_str, i_str_int, i_str_bool, i_str_tuple, i_str_list, i_str_str, i_tuple_int, i_tuple_bool, i_tuple_tuple, i_tuple_list, i_tuple_str, i_list_int, i_list_bool, i_list_tuple, i_list_list, i_list_str, i_dict_int, i_dict_bool, i_dict_tuple, i_dict_list, i_dict_str, up_same, g_02, g_02', g_01, g_11, at_0, at_1, ix_0, ix_1, Option.some.injEq, HQ.lst.injEq, exists_eq_left', exists_eq_left, exists_and_left, exists_eq', exists_eq, decide_eq_true_eq, if_true, if_false, ite_true, ite_false, Bool.false_eq_true, reduceIte, reduceCtorEq, Bool.not_true, Bool.not_false, Nat.zero_add, Nat.reduceAdd, Nat.reduceSub, Nat.reduceLeDiff, Nat.reduceLT, Int.reduceLT, Int.reduceLE, Int.reduceEq, Int.reduceNe, Nat.reduceEqDiff, Int.reduceToNat, Int.reducePow, Int.reduceMul, Int.reduceAdd, Int.reduceSub, Int.reduceNeg, and_true, true_and, decide_true, decide_false]
    exact k p _ l1 hp hS

def sp_law : Sq := fun ds S Q _ => ∃ ns : List Int, ds = [.kl (ns.map D.int)] ∧ ns.length ≤ 63 ∧ ∀ S', Q (.bl true) S'
theorem ln_law : ∀ ds S Q E, sp_law ds S Q E → ds.length = 1 := by rintro _ _ _ _ ⟨b, rfl, _⟩; rfl
theorem nx_law : ∀ ds S Q E, sp_law ds S Q E → sp_law ds S Q NoX := fun _ _ _ _ h => h
theorem law_ok : ∀ (ns : List Int) (S : Hq) (Q' : Qv), ns.length ≤ 63 → (∀ S', Q' (.bl true) S') → sp_law [.kl (ns.map D.int)] S Q' NoX := fun ns S Q h k => ⟨ns, rfl, h, k⟩
theorem pn_ints {xs : List Int} (h : xs.length ≤ 100000) : Pn 5 (.tup (xs.map D.int)) := ⟨by rw [List.length_map]; exact h, fun x hx => by obtain ⟨i, _, rfl⟩ := mem_ints hx; trivial⟩
theorem lets_of : ∀ {ds : List D}, (∀ y ∈ ds, ∃ l, y = letD l ∧ LtOk l) → ∃ ls : List Lt, ds = ls.map letD ∧ ∀ l ∈ ls, LtOk l
  | [], _ => ⟨[], rfl, fun _ h => by cases h⟩
  | d :: ds, h => by
    obtain ⟨l, rfl, hl⟩ := h d List.mem_cons_self
    obtain ⟨ls, rfl, hs⟩ := lets_of (ds := ds) fun y hy => h y (List.mem_cons_of_mem _ hy)
    exact ⟨l :: ls, rfl, fun j hj => by rcases List.mem_cons.mp hj with rfl | hj; exact hl; exact hs j hj⟩

def rd_law : RSt :=
 (rSeq (rFor (iLst (rCall sp_law_edges rNil)) (gNm 1)
 (rIfS (rNot (rTst (rCall (sp_law_same 5) (rCons (rCall sp_encode_letter (rCons (rVar 1) rNil)) (rCons (rFn tupF (rCons (rCall sp_law_form (rCons (rVar 1) rNil)) rNil)) rNil)))))
 (rRet (rC (.bl false)))
 rNext))
 (rSeq (rFor (iRg1 (rCons (rFn maxD (rCons (rC (.int 3)) (rCons (rFn minD (rCons (rFn lenD (rCons (rVar 0) rNil)) (rCons (rC (.int 8)) rNil))) rNil))) rNil)) (gNm 2)
 (rSeq (rSet (rCall sp_law_box (rCons (rVar 0) (rCons (rVar 2) rNil))) (gNm 3))
 (rSeq (rSet (rLc (iRg1 (rCons (rCall sp_law_take (rCons (rVar 3) (rCons (rC (.int 5)) rNil))) rNil)) (gNm 6) rYes (rCall sp_law_letter (rCons (rVar 3) rNil)) [6]) (gNm 4))
 (rSeq (rFor (iLst (rVar 4)) (gNm 1)
 (rIfS (rNot (rTst (rCall (sp_law_same 5) (rCons (rCall sp_encode_letter (rCons (rVar 1) rNil)) (rCons (rFn tupF (rCons (rCall sp_law_form (rCons (rVar 1) rNil)) rNil)) rNil)))))
 (rRet (rC (.bl false)))
 rNext))
 (rSeq (rIfS (rNot (rTst (rCall (sp_law_same 5) (rCons (rCall sp_encode_stream (rCons (rFn tupF (rCons (rVar 4) rNil)) rNil)) (rCons (rFn tupF (rCons (rCall sp_law_joined (rCons (rVar 4) rNil)) rNil)) rNil)))))
 (rRet (rC (.bl false)))
 rNext)
 (rSeq (rSet (rBin addD (rUn revD (rVar 4)) (rVar 4)) (gNm 5))
 (rSeq (rIfS (rNot (rTst (rCall (sp_law_same 5) (rCons (rCallK sp_encode_stream 0 1 [0] rNil (rCons (rFn tupF (rCons (rVar 5) rNil)) rNil)) (rCons (rFn tupF (rCons (rCall sp_law_joined (rCons (rVar 5) rNil)) rNil)) rNil)))))
 (rRet (rC (.bl false)))
 rNext)
 (rIfS (rAnd (rTst (rBin gtD2 (rFn lenD (rCons (rVar 4) rNil)) (rC (.int 0)))) (rNot (rTst (rCall (sp_law_same 5) (rCons (rCallK sp_encode_letter 0 1 [0] rNil (rCons (rBin ixD (rVar 4) (rC (.int 0))) rNil)) (rCons (rFn tupF (rCons (rCall sp_law_form (rCons (rBin ixD (rVar 4) (rC (.int 0))) rNil)) rNil)) rNil))))))
 (rRet (rC (.bl false)))
 rNext))))))))
 (rRet (rC (.bl true)))))

theorem pu_law : ∀ ds S Q, sp_law ds S Q NoX → rd_law { nx := fun _ S => Q .non S, rt := Q } (start' 7 ds) S := by

  rintro _ S Q ⟨ns, rfl, hl, k⟩
  unfold rd_law
  show rSeq _ _ _ _ _
  unfold rSeq
  simp only [rVar, rC, rBin, rUn, rTst, rChn, rTru, rAnd, rOr, rNot, rAndV, rOrV, rNotV, rIf, rNil, rCons, rTup, rLst, rFn, rCall, rCallK, rSl, rPrt, rNoP, rMt, gNm, q_gN, q_gC, q_gTp, gSb, rNext, rSeq, rDrop, rRet, rRetN, rBrk, rCnt, rIfS, rSet, rPar, rFor, iSeq, iLst, iRg1, iRg2, iZp, iEn, iStrD, rLc, rYes, q_isi2, q_i2N, q_i2B, q_i2I, q_i2S, q_i2T, q_i2L, q_j2N, q_j2B, q_j2I, q_j2S, q_j2T, q_j2L, q_gt2, q_gtT, q_en, q_int2, q_strD, q_rev, q_ixo, q_ext2, q_extT, En.x, wipeD, start', List.getElem?_cons_zero, List.getElem?_cons_succ, List.set_cons_zero, List.set_cons_succ, List.map_cons, List.map_nil, List.length_cons, List.length_nil, List.cons_append, List.nil_append, List.replicate_succ, List.replicate_zero, id, q_asB, q_asI, q_add, q_addS, q_addT, q_addL, q_int, q_sub, q_mul, q_fdiv, q_mod, q_pow, q_neg, q_le, q_ge, q_gt, q_lt, q_ltT, q_isN, q_isB, q_isBi, q_isBs, q_isBn, q_isBt, q_isnt, n_non, n_bl, n_int, n_str, n_tup, n_ref, q_eq, q_eqS, q_eqB, q_ixT, q_ixK, q_ixL, q_ixS, q_slT, q_slL, q_slS, q_set, q_lenT, q_lenK, q_lenS, q_lenL, q_abs, q_intF, q_max, q_min, q_tupT, q_tupL, q_lstT, q_lstL, q_app, q_ext, q_joinL, q_stw, q_seq, q_lst, q_rng, q_rng2, q_zpT, q_zpL, q_truN, q_truB, q_truI, q_truT, q_truL, t_non, t_bl, t_int, t_str, t_tup, q_isiN, q_isiB, q_isiI, q_isiS, q_isiT, i_NoneType_int, i_NoneType_bool, i_NoneType_tuple, i_NoneType_list, i_NoneType_str, i_bool_int, i_bool_bool, i_bool_tuple, i_bool_list, i_bool_str, i_int_int, i_int_bool, i_int_tuple, i_int_list, i_int_str, i_str_int, i_str_bool, i_str_tuple, i_str_list, i_str_str, i_tuple_int, i_tuple_bool, i_tuple_tuple, i_tuple_list, i_tuple_str, i_list_int, i_list_bool, i_list_tuple, i_list_list, i_list_str, i_dict_int, i_dict_bool, i_dict_tuple, i_dict_list, i_dict_str, up_same, g_02, g_02', g_01, g_11, at_0, at_1, ix_0, ix_1, Option.some.injEq, HQ.lst.injEq, exists_eq_left', exists_eq_left, exists_and_left, exists_eq', exists_eq, decide_eq_true_eq, if_true, if_false, ite_true, ite_false, Bool.false_eq_true, reduceIte, reduceCtorEq, Bool.not_true, Bool.not_false, Nat.zero_add, Nat.reduceAdd, Nat.reduceSub, Nat.reduceLeDiff, Nat.reduceLT, Int.reduceLT, Int.reduceLE, Int.reduceEq, Int.reduceNe, Nat.reduceEqDiff, Int.reduceToNat, Int.reducePow, Int.reduceMul, Int.reduceAdd, Int.reduceSub, Int.reduceNeg, and_true, true_and, decide_true, decide_false, List.length_map]
  refine ⟨rfl, fun p S1 l1 hp hS1 => ?_⟩
  simp only [rVar, rC, rBin, rUn, rTst, rChn, rTru, rAnd, rOr, rNot, rAndV, rOrV, rNotV, rIf, rNil, rCons, rTup, rLst, rFn, rCall, rCallK, rSl, rPrt, rNoP, rMt, gNm, q_gN, q_gC, q_gTp, gSb, rNext, rSeq, rDrop, rRet, rRetN, rBrk, rCnt, rIfS, rSet, rPar, rFor, iSeq, iLst, iRg1, iRg2, iZp, iEn, iStrD, rLc, rYes, q_isi2, q_i2N, q_i2B, q_i2I, q_i2S, q_i2T, q_i2L, q_j2N, q_j2B, q_j2I, q_j2S, q_j2T, q_j2L, q_gt2, q_gtT, q_en, q_int2, q_strD, q_rev, q_ixo, q_ext2, q_extT, En.x, wipeD, start', List.getElem?_cons_zero, List.getElem?_cons_succ, List.set_cons_zero, List.set_cons_succ, List.map_cons, List.map_nil, List.length_cons, List.length_nil, List.cons_append, List.nil_append, List.replicate_succ, List.replicate_zero, id, q_asB, q_asI, q_add, q_addS, q_addT, q_addL, q_int, q_sub, q_mul, q_fdiv, q_mod, q_pow, q_neg, q_le, q_ge, q_gt, q_lt, q_ltT, q_isN, q_isB, q_isBi, q_isBs, q_isBn, q_isBt, q_isnt, n_non, n_bl, n_int, n_str, n_tup, n_ref, q_eq, q_eqS, q_eqB, q_ixT, q_ixK, q_ixL, q_ixS, q_slT, q_slL, q_slS, q_set, q_lenT, q_lenK, q_lenS, q_lenL, q_abs, q_intF, q_max, q_min, q_tupT, q_tupL, q_lstT, q_lstL, q_app, q_ext, q_joinL, q_stw, q_seq, q_lst, q_rng, q_rng2, q_zpT, q_zpL, q_truN, q_truB, q_truI, q_truT, q_truL, t_non, t_bl, t_int, t_str, t_tup, q_isiN, q_isiB, q_isiI, q_isiS, q_isiT, i_NoneType_int, i_NoneType_bool, i_NoneType_tuple, i_NoneType_list, i_NoneType_str, i_bool_int, i_bool_bool, i_bool_tuple, i_bool_list, i_bool_str, i_int_int, i_int_bool, i_int_tuple, i_int_list, i_int_str, i_str_int, i_str_bool, i_str_tuple, i_str_list, i_str_str, i_tuple_int, i_tuple_bool, i_tuple_tuple, i_tuple_list, i_tuple_str, i_list_int, i_list_bool, i_list_tuple, i_list_list, i_list_str, i_dict_int, i_dict_bool, i_dict_tuple, i_dict_list, i_dict_str, up_same, g_02, g_02', g_01, g_11, at_0, at_1, ix_0, ix_1, Option.some.injEq, HQ.lst.injEq, exists_eq_left', exists_eq_left, exists_and_left, exists_eq', exists_eq, decide_eq_true_eq, if_true, if_false, ite_true, ite_false, Bool.false_eq_true, reduceIte, reduceCtorEq, Bool.not_true, Bool.not_false, Nat.zero_add, Nat.reduceAdd, Nat.reduceSub, Nat.reduceLeDiff, Nat.reduceLT, Int.reduceLT, Int.reduceLE, Int.reduceEq, Int.reduceNe, Nat.reduceEqDiff, Int.reduceToNat, Int.reducePow, Int.reduceMul, Int.reduceAdd, Int.reduceSub, Int.reduceNeg, and_true, true_and, decide_true, decide_false]
  refine ⟨_, hS1, ?_⟩
  refine loop_idx (fun i σ S' => S' p = some (.lst (edgesL.map letD)) ∧ ∃ y1 y2 y3 y4 y5 y6 : Option D, σ = [some (.kl (ns.map D.int)), y1, y2, y3, y4, y5, y6]) (fun _ _ _ _ h => h.1) (fun i x σ S' hx hp' N hN => ?_) (fun σ S' hp' => ?_) ⟨hS1, _, _, _, _, _, _, rfl⟩
  · obtain ⟨hS, y1, y2, y3, y4, y5, y6, rfl⟩ := hp'
    rw [List.getElem?_map] at hx
    cases he : edgesL[i]? with
    | none => rw [he] at hx; cases hx
    | some e =>
      rw [he] at hx; cases hx
      have hb := edges_ok e (List.mem_of_getElem? he)
      simp only [rVar, rC, rBin, rUn, rTst, rChn, rTru, rAnd, rOr, rNot, rAndV, rOrV, rNotV, rIf, rNil, rCons, rTup, rLst, rFn, rCall, rCallK, rSl, rPrt, rNoP, rMt, gNm, q_gN, q_gC, q_gTp, gSb, rNext, rSeq, rDrop, rRet, rRetN, rBrk, rCnt, rIfS, rSet, rPar, rFor, iSeq, iLst, iRg1, iRg2, iZp, iEn, iStrD, rLc, rYes, q_isi2, q_i2N, q_i2B, q_i2I, q_i2S, q_i2T, q_i2L, q_j2N, q_j2B, q_j2I, q_j2S, q_j2T, q_j2L, q_gt2, q_gtT, q_en, q_int2, q_strD, q_rev, q_ixo, q_ext2, q_extT, En.x, wipeD, start', List.getElem?_cons_zero, List.getElem?_cons_succ, List.set_cons_zero, List.set_cons_succ, List.map_cons, List.map_nil, List.length_cons, List.length_nil, List.cons_append, List.nil_append, List.replicate_succ, List.replicate_zero, id, q_asB, q_asI, q_add, q_addS, q_addT, q_addL, q_int, q_sub, q_mul, q_fdiv, q_mod, q_pow, q_neg, q_le, q_ge, q_gt, q_lt, q_ltT, q_isN, q_isB, q_isBi, q_isBs, q_isBn, q_isBt, q_isnt, n_non, n_bl, n_int, n_str, n_tup, n_ref, q_eq, q_eqS, q_eqB, q_ixT, q_ixK, q_ixL, q_ixS, q_slT, q_slL, q_slS, q_set, q_lenT, q_lenK, q_lenS, q_lenL, q_abs, q_intF, q_max, q_min, q_tupT, q_tupL, q_lstT, q_lstL, q_app, q_ext, q_joinL, q_stw, q_seq, q_lst, q_rng, q_rng2, q_zpT, q_zpL, q_truN, q_truB, q_truI, q_truT, q_truL, t_non, t_bl, t_int, t_str, t_tup, q_isiN, q_isiB, q_isiI, q_isiS, q_isiT, i_NoneType_int, i_NoneType_bool, i_NoneType_tuple, i_NoneType_list, i_NoneType_str, i_bool_int, i_bool_bool, i_bool_tuple, i_bool_list, i_bool_str, i_int_int, i_int_bool, i_int_tuple, i_int_list, i_int_str, i_str_int, i_str_bool, i_str_tuple, i_str_list, i_str_str, i_tuple_int, i_tuple_bool, i_tuple_tuple, i_tuple_list, i_tuple_str, i_list_int, i_list_bool, i_list_tuple, i_list_list, i_list_str, i_dict_int, i_dict_bool, i_dict_tuple, i_dict_list, i_dict_str, up_same, g_02, g_02', g_01, g_11, at_0, at_1, ix_0, ix_1, Option.some.injEq, HQ.lst.injEq, exists_eq_left', exists_eq_left, exists_and_left, exists_eq', exists_eq, decide_eq_true_eq, if_true, if_false, ite_true, ite_false, Bool.false_eq_true, reduceIte, reduceCtorEq, Bool.not_true, Bool.not_false, Nat.zero_add, Nat.reduceAdd, Nat.reduceSub, Nat.reduceLeDiff, Nat.reduceLT, Int.reduceLT, Int.reduceLE, Int.reduceEq, Int.reduceNe, Nat.reduceEqDiff, Int.reduceToNat, Int.reducePow, Int.reduceMul, Int.reduceAdd, Int.reduceSub, Int.reduceNeg, and_true, true_and, decide_true, decide_false]
      refine ⟨e, rfl, hb, fun S2 l2 => ?_⟩
      refine ⟨e, rfl, hb, fun u S3 l3 hu hS3 => ?_⟩
      simp only [rVar, rC, rBin, rUn, rTst, rChn, rTru, rAnd, rOr, rNot, rAndV, rOrV, rNotV, rIf, rNil, rCons, rTup, rLst, rFn, rCall, rCallK, rSl, rPrt, rNoP, rMt, gNm, q_gN, q_gC, q_gTp, gSb, rNext, rSeq, rDrop, rRet, rRetN, rBrk, rCnt, rIfS, rSet, rPar, rFor, iSeq, iLst, iRg1, iRg2, iZp, iEn, iStrD, rLc, rYes, q_isi2, q_i2N, q_i2B, q_i2I, q_i2S, q_i2T, q_i2L, q_j2N, q_j2B, q_j2I, q_j2S, q_j2T, q_j2L, q_gt2, q_gtT, q_en, q_int2, q_strD, q_rev, q_ixo, q_ext2, q_extT, En.x, wipeD, start', List.getElem?_cons_zero, List.getElem?_cons_succ, List.set_cons_zero, List.set_cons_succ, List.map_cons, List.map_nil, List.length_cons, List.length_nil, List.cons_append, List.nil_append, List.replicate_succ, List.replicate_zero, id, q_asB, q_asI, q_add, q_addS, q_addT, q_addL, q_int, q_sub, q_mul, q_fdiv, q_mod, q_pow, q_neg, q_le, q_ge, q_gt, q_lt, q_ltT, q_isN, q_isB, q_isBi, q_isBs, q_isBn, q_isBt, q_isnt, n_non, n_bl, n_int, n_str, n_tup, n_ref, q_eq, q_eqS, q_eqB, q_ixT, q_ixK, q_ixL, q_ixS, q_slT, q_slL, q_slS, q_set, q_lenT, q_lenK, q_lenS, q_lenL, q_abs, q_intF, q_max, q_min, q_tupT, q_tupL, q_lstT, q_lstL, q_app, q_ext, q_joinL, q_stw, q_seq, q_lst, q_rng, q_rng2, q_zpT, q_zpL, q_truN, q_truB, q_truI, q_truT, q_truL, t_non, t_bl, t_int, t_str, t_tup, q_isiN, q_isiB, q_isiI, q_isiS, q_isiT, i_NoneType_int, i_NoneType_bool, i_NoneType_tuple, i_NoneType_list, i_NoneType_str, i_bool_int, i_bool_bool, i_bool_tuple, i_bool_list, i_bool_str, i_int_int, i_int_bool, i_int_tuple, i_int_list, i_int_str, i_str_int, i_str_bool, i_str_tuple, i_str_list, i_str_str, i_tuple_int, i_tuple_bool, i_tuple_tuple, i_tuple_list, i_tuple_str, i_list_int, i_list_bool, i_list_tuple, i_list_list, i_list_str, i_dict_int, i_dict_bool, i_dict_tuple, i_dict_list, i_dict_str, up_same, g_02, g_02', g_01, g_11, at_0, at_1, ix_0, ix_1, Option.some.injEq, HQ.lst.injEq, exists_eq_left', exists_eq_left, exists_and_left, exists_eq', exists_eq, decide_eq_true_eq, if_true, if_false, ite_true, ite_false, Bool.false_eq_true, reduceIte, reduceCtorEq, Bool.not_true, Bool.not_false, Nat.zero_add, Nat.reduceAdd, Nat.reduceSub, Nat.reduceLeDiff, Nat.reduceLT, Int.reduceLT, Int.reduceLE, Int.reduceEq, Int.reduceNe, Nat.reduceEqDiff, Int.reduceToNat, Int.reducePow, Int.reduceMul, Int.reduceAdd, Int.reduceSub, Int.reduceNeg, and_true, true_and, decide_true, decide_false, hS3]
      refine ⟨_, rfl, pn_ints (Nat.le_trans (formL_len hb) (by decide)), ?_⟩
      simp only [rVar, rC, rBin, rUn, rTst, rChn, rTru, rAnd, rOr, rNot, rAndV, rOrV, rNotV, rIf, rNil, rCons, rTup, rLst, rFn, rCall, rCallK, rSl, rPrt, rNoP, rMt, gNm, q_gN, q_gC, q_gTp, gSb, rNext, rSeq, rDrop, rRet, rRetN, rBrk, rCnt, rIfS, rSet, rPar, rFor, iSeq, iLst, iRg1, iRg2, iZp, iEn, iStrD, rLc, rYes, q_isi2, q_i2N, q_i2B, q_i2I, q_i2S, q_i2T, q_i2L, q_j2N, q_j2B, q_j2I, q_j2S, q_j2T, q_j2L, q_gt2, q_gtT, q_en, q_int2, q_strD, q_rev, q_ixo, q_ext2, q_extT, En.x, wipeD, start', List.getElem?_cons_zero, List.getElem?_cons_succ, List.set_cons_zero, List.set_cons_succ, List.map_cons, List.map_nil, List.length_cons, List.length_nil, List.cons_append, List.nil_append, List.replicate_succ, List.replicate_zero, id, q_asB, q_asI, q_add, q_addS, q_addT, q_addL, q_int, q_sub, q_mul, q_fdiv, q_mod, q_pow, q_neg, q_le, q_ge, q_gt, q_lt, q_ltT, q_isN, q_isB, q_isBi, q_isBs, q_isBn, q_isBt, q_isnt, n_non, n_bl, n_int, n_str, n_tup, n_ref, q_eq, q_eqS, q_eqB, q_ixT, q_ixK, q_ixL, q_ixS, q_slT, q_slL, q_slS, q_set, q_lenT, q_lenK, q_lenS, q_lenL, q_abs, q_intF, q_max, q_min, q_tupT, q_tupL, q_lstT, q_lstL, q_app, q_ext, q_joinL, q_stw, q_seq, q_lst, q_rng, q_rng2, q_zpT, q_zpL, q_truN, q_truB, q_truI, q_truT, q_truL, t_non, t_bl, t_int, t_str, t_tup, q_isiN, q_isiB, q_isiI, q_isiS, q_isiT, i_NoneType_int, i_NoneType_bool, i_NoneType_tuple, i_NoneType_list, i_NoneType_str, i_bool_int, i_bool_bool, i_bool_tuple, i_bool_list, i_bool_str, i_int_int, i_int_bool, i_int_tuple, i_int_list, i_int_str, i_str_int, i_str_bool, i_str_tuple, i_str_list, i_str_str, i_tuple_int, i_tuple_bool, i_tuple_tuple, i_tuple_list, i_tuple_str, i_list_int, i_list_bool, i_list_tuple, i_list_list, i_list_str, i_dict_int, i_dict_bool, i_dict_tuple, i_dict_list, i_dict_str, up_same, g_02, g_02', g_01, g_11, at_0, at_1, ix_0, ix_1, Option.some.injEq, HQ.lst.injEq, exists_eq_left', exists_eq_left, exists_and_left, exists_eq', exists_eq, decide_eq_true_eq, if_true, if_false, ite_true, ite_false, Bool.false_eq_true, reduceIte, reduceCtorEq, Bool.not_true, Bool.not_false, Nat.zero_add, Nat.reduceAdd, Nat.reduceSub, Nat.reduceLeDiff, Nat.reduceLT, Int.reduceLT, Int.reduceLE, Int.reduceEq, Int.reduceNe, Nat.reduceEqDiff, Int.reduceToNat, Int.reducePow, Int.reduceMul, Int.reduceAdd, Int.reduceSub, Int.reduceNeg, and_true, true_and, decide_true, decide_false]
      exact hN _ _ ⟨l3 p _ (l2 p _ hS), _, _, _, _, _, _, rfl⟩
  obtain ⟨hS, y1, y2, y3, y4, y5, y6, rfl⟩ := hp'
  simp only [rVar, rC, rBin, rUn, rTst, rChn, rTru, rAnd, rOr, rNot, rAndV, rOrV, rNotV, rIf, rNil, rCons, rTup, rLst, rFn, rCall, rCallK, rSl, rPrt, rNoP, rMt, gNm, q_gN, q_gC, q_gTp, gSb, rNext, rSeq, rDrop, rRet, rRetN, rBrk, rCnt, rIfS, rSet, rPar, rFor, iSeq, iLst, iRg1, iRg2, iZp, iEn, iStrD, rLc, rYes, q_isi2, q_i2N, q_i2B, q_i2I, q_i2S, q_i2T, q_i2L, q_j2N, q_j2B, q_j2I, q_j2S, q_j2T, q_j2L, q_gt2, q_gtT, q_en, q_int2, q_strD, q_rev, q_ixo, q_ext2, q_extT, En.x, wipeD, start', List.getElem?_cons_zero, List.getElem?_cons_succ, List.set_cons_zero, List.set_cons_succ, List.map_cons, List.map_nil, List.length_cons, List.length_nil, List.cons_append, List.nil_append, List.replicate_succ, List.replicate_zero, id, q_asB, q_asI, q_add, q_addS, q_addT, q_addL, q_int, q_sub, q_mul, q_fdiv, q_mod, q_pow, q_neg, q_le, q_ge, q_gt, q_lt, q_ltT, q_isN, q_isB, q_isBi, q_isBs, q_isBn, q_isBt, q_isnt, n_non, n_bl, n_int, n_str, n_tup, n_ref, q_eq, q_eqS, q_eqB, q_ixT, q_ixK, q_ixL, q_ixS, q_slT, q_slL, q_slS, q_set, q_lenT, q_lenK, q_lenS, q_lenL, q_abs, q_intF, q_max, q_min, q_tupT, q_tupL, q_lstT, q_lstL, q_app, q_ext, q_joinL, q_stw, q_seq, q_lst, q_rng, q_rng2, q_zpT, q_zpL, q_truN, q_truB, q_truI, q_truT, q_truL, t_non, t_bl, t_int, t_str, t_tup, q_isiN, q_isiB, q_isiI, q_isiS, q_isiT, i_NoneType_int, i_NoneType_bool, i_NoneType_tuple, i_NoneType_list, i_NoneType_str, i_bool_int, i_bool_bool, i_bool_tuple, i_bool_list, i_bool_str, i_int_int, i_int_bool, i_int_tuple, i_int_list, i_int_str, i_str_int, i_str_bool, i_str_tuple, i_str_list, i_str_str, i_tuple_int, i_tuple_bool, i_tuple_tuple, i_tuple_list, i_tuple_str, i_list_int, i_list_bool, i_list_tuple, i_list_list, i_list_str, i_dict_int, i_dict_bool, i_dict_tuple, i_dict_list, i_dict_str, up_same, g_02, g_02', g_01, g_11, at_0, at_1, ix_0, ix_1, Option.some.injEq, HQ.lst.injEq, exists_eq_left', exists_eq_left, exists_and_left, exists_eq', exists_eq, decide_eq_true_eq, if_true, if_false, ite_true, ite_false, Bool.false_eq_true, reduceIte, reduceCtorEq, Bool.not_true, Bool.not_false, Nat.zero_add, Nat.reduceAdd, Nat.reduceSub, Nat.reduceLeDiff, Nat.reduceLT, Int.reduceLT, Int.reduceLE, Int.reduceEq, Int.reduceNe, Nat.reduceEqDiff, Int.reduceToNat, Int.reducePow, Int.reduceMul, Int.reduceAdd, Int.reduceSub, Int.reduceNeg, and_true, true_and, decide_true, decide_false, List.length_map]
  generalize hM : (if (if (8 : Int) < ns.length then (8 : Int) else ns.length) > 3 then (if (8 : Int) < ns.length then (8 : Int) else ns.length) else 3) = M
  have hM1 : 0 ≤ M ∧ M ≤ 8 := by subst hM; (repeat' split) <;> omega
  clear hM
  refine ⟨⟨by omega, by omega⟩, ?_⟩
  refine loop_idx (fun i σ S' => ∃ y1 y2 y3 y4 y5 y6 : Option D, σ = [some (.kl (ns.map D.int)), y1, y2, y3, y4, y5, y6]) (fun _ _ _ _ _ => trivial) (fun i0 x σ S' hx hp N hN => ?_) (fun σ S' hp => ?_) ⟨_, _, _, _, _, _, rfl⟩
  rotate_left
  · obtain ⟨y1, y2, y3, y4, y5, y6, rfl⟩ := hp
    simp only [rVar, rC, rBin, rUn, rTst, rChn, rTru, rAnd, rOr, rNot, rAndV, rOrV, rNotV, rIf, rNil, rCons, rTup, rLst, rFn, rCall, rCallK, rSl, rPrt, rNoP, rMt, gNm, q_gN, q_gC, q_gTp, gSb, rNext, rSeq, rDrop, rRet, rRetN, rBrk, rCnt, rIfS, rSet, rPar, rFor, iSeq, iLst, iRg1, iRg2, iZp, iEn, iStrD, rLc, rYes, q_isi2, q_i2N, q_i2B, q_i2I, q_i2S, q_i2T, q_i2L, q_j2N, q_j2B, q_j2I, q_j2S, q_j2T, q_j2L, q_gt2, q_gtT, q_en, q_int2, q_strD, q_rev, q_ixo, q_ext2, q_extT, En.x, wipeD, start', List.getElem?_cons_zero, List.getElem?_cons_succ, List.set_cons_zero, List.set_cons_succ, List.map_cons, List.map_nil, List.length_cons, List.length_nil, List.cons_append, List.nil_append, List.replicate_succ, List.replicate_zero, id, q_asB, q_asI, q_add, q_addS, q_addT, q_addL, q_int, q_sub, q_mul, q_fdiv, q_mod, q_pow, q_neg, q_le, q_ge, q_gt, q_lt, q_ltT, q_isN, q_isB, q_isBi, q_isBs, q_isBn, q_isBt, q_isnt, n_non, n_bl, n_int, n_str, n_tup, n_ref, q_eq, q_eqS, q_eqB, q_ixT, q_ixK, q_ixL, q_ixS, q_slT, q_slL, q_slS, q_set, q_lenT, q_lenK, q_lenS, q_lenL, q_abs, q_intF, q_max, q_min, q_tupT, q_tupL, q_lstT, q_lstL, q_app, q_ext, q_joinL, q_stw, q_seq, q_lst, q_rng, q_rng2, q_zpT, q_zpL, q_truN, q_truB, q_truI, q_truT, q_truL, t_non, t_bl, t_int, t_str, t_tup, q_isiN, q_isiB, q_isiI, q_isiS, q_isiT, i_NoneType_int, i_NoneType_bool, i_NoneType_tuple, i_NoneType_list, i_NoneType_str, i_bool_int, i_bool_bool, i_bool_tuple, i_bool_list, i_bool_str, i_int_int, i_int_bool, i_int_tuple, i_int_list, i_int_str, i_str_int, i_str_bool, i_str_tuple, i_str_list, i_str_str, i_tuple_int, i_tuple_bool, i_tuple_tuple, i_tuple_list, i_tuple_str, i_list_int, i_list_bool, i_list_tuple, i_list_list, i_list_str, i_dict_int, i_dict_bool, i_dict_tuple, i_dict_list, i_dict_str, up_same, g_02, g_02', g_01, g_11, at_0, at_1, ix_0, ix_1, Option.some.injEq, HQ.lst.injEq, exists_eq_left', exists_eq_left, exists_and_left, exists_eq', exists_eq, decide_eq_true_eq, if_true, if_false, ite_true, ite_false, Bool.false_eq_true, reduceIte, reduceCtorEq, Bool.not_true, Bool.not_false, Nat.zero_add, Nat.reduceAdd, Nat.reduceSub, Nat.reduceLeDiff, Nat.reduceLT, Int.reduceLT, Int.reduceLE, Int.reduceEq, Int.reduceNe, Nat.reduceEqDiff, Int.reduceToNat, Int.reducePow, Int.reduceMul, Int.reduceAdd, Int.reduceSub, Int.reduceNeg, and_true, true_and, decide_true, decide_false]
    exact k S'
  obtain ⟨y1, y2, y3, y4, y5, y6, rfl⟩ := hp
  obtain ⟨hi, rfl⟩ := rangeD_get hx
  simp only [rVar, rC, rBin, rUn, rTst, rChn, rTru, rAnd, rOr, rNot, rAndV, rOrV, rNotV, rIf, rNil, rCons, rTup, rLst, rFn, rCall, rCallK, rSl, rPrt, rNoP, rMt, gNm, q_gN, q_gC, q_gTp, gSb, rNext, rSeq, rDrop, rRet, rRetN, rBrk, rCnt, rIfS, rSet, rPar, rFor, iSeq, iLst, iRg1, iRg2, iZp, iEn, iStrD, rLc, rYes, q_isi2, q_i2N, q_i2B, q_i2I, q_i2S, q_i2T, q_i2L, q_j2N, q_j2B, q_j2I, q_j2S, q_j2T, q_j2L, q_gt2, q_gtT, q_en, q_int2, q_strD, q_rev, q_ixo, q_ext2, q_extT, En.x, wipeD, start', List.getElem?_cons_zero, List.getElem?_cons_succ, List.set_cons_zero, List.set_cons_succ, List.map_cons, List.map_nil, List.length_cons, List.length_nil, List.cons_append, List.nil_append, List.replicate_succ, List.replicate_zero, id, q_asB, q_asI, q_add, q_addS, q_addT, q_addL, q_int, q_sub, q_mul, q_fdiv, q_mod, q_pow, q_neg, q_le, q_ge, q_gt, q_lt, q_ltT, q_isN, q_isB, q_isBi, q_isBs, q_isBn, q_isBt, q_isnt, n_non, n_bl, n_int, n_str, n_tup, n_ref, q_eq, q_eqS, q_eqB, q_ixT, q_ixK, q_ixL, q_ixS, q_slT, q_slL, q_slS, q_set, q_lenT, q_lenK, q_lenS, q_lenL, q_abs, q_intF, q_max, q_min, q_tupT, q_tupL, q_lstT, q_lstL, q_app, q_ext, q_joinL, q_stw, q_seq, q_lst, q_rng, q_rng2, q_zpT, q_zpL, q_truN, q_truB, q_truI, q_truT, q_truL, t_non, t_bl, t_int, t_str, t_tup, q_isiN, q_isiB, q_isiI, q_isiS, q_isiT, i_NoneType_int, i_NoneType_bool, i_NoneType_tuple, i_NoneType_list, i_NoneType_str, i_bool_int, i_bool_bool, i_bool_tuple, i_bool_list, i_bool_str, i_int_int, i_int_bool, i_int_tuple, i_int_list, i_int_str, i_str_int, i_str_bool, i_str_tuple, i_str_list, i_str_str, i_tuple_int, i_tuple_bool, i_tuple_tuple, i_tuple_list, i_tuple_str, i_list_int, i_list_bool, i_list_tuple, i_list_list, i_list_str, i_dict_int, i_dict_bool, i_dict_tuple, i_dict_list, i_dict_str, up_same, g_02, g_02', g_01, g_11, at_0, at_1, ix_0, ix_1, Option.some.injEq, HQ.lst.injEq, exists_eq_left', exists_eq_left, exists_and_left, exists_eq', exists_eq, decide_eq_true_eq, if_true, if_false, ite_true, ite_false, Bool.false_eq_true, reduceIte, reduceCtorEq, Bool.not_true, Bool.not_false, Nat.zero_add, Nat.reduceAdd, Nat.reduceSub, Nat.reduceLeDiff, Nat.reduceLT, Int.reduceLT, Int.reduceLE, Int.reduceEq, Int.reduceNe, Nat.reduceEqDiff, Int.reduceToNat, Int.reducePow, Int.reduceMul, Int.reduceAdd, Int.reduceSub, Int.reduceNeg, and_true, true_and, decide_true, decide_false]
  refine ⟨ns, _, rfl, hl, by omega, by omega, fun b g s hb => ?_⟩
  have bx0 : Bx (up S' b (.lst [.int g, .int s])) b := ⟨g, s, up_same⟩
  generalize up S' b (.lst [.int g, .int s]) = S0 at bx0 ⊢
  simp only [rVar, rC, rBin, rUn, rTst, rChn, rTru, rAnd, rOr, rNot, rAndV, rOrV, rNotV, rIf, rNil, rCons, rTup, rLst, rFn, rCall, rCallK, rSl, rPrt, rNoP, rMt, gNm, q_gN, q_gC, q_gTp, gSb, rNext, rSeq, rDrop, rRet, rRetN, rBrk, rCnt, rIfS, rSet, rPar, rFor, iSeq, iLst, iRg1, iRg2, iZp, iEn, iStrD, rLc, rYes, q_isi2, q_i2N, q_i2B, q_i2I, q_i2S, q_i2T, q_i2L, q_j2N, q_j2B, q_j2I, q_j2S, q_j2T, q_j2L, q_gt2, q_gtT, q_en, q_int2, q_strD, q_rev, q_ixo, q_ext2, q_extT, En.x, wipeD, start', List.getElem?_cons_zero, List.getElem?_cons_succ, List.set_cons_zero, List.set_cons_succ, List.map_cons, List.map_nil, List.length_cons, List.length_nil, List.cons_append, List.nil_append, List.replicate_succ, List.replicate_zero, id, q_asB, q_asI, q_add, q_addS, q_addT, q_addL, q_int, q_sub, q_mul, q_fdiv, q_mod, q_pow, q_neg, q_le, q_ge, q_gt, q_lt, q_ltT, q_isN, q_isB, q_isBi, q_isBs, q_isBn, q_isBt, q_isnt, n_non, n_bl, n_int, n_str, n_tup, n_ref, q_eq, q_eqS, q_eqB, q_ixT, q_ixK, q_ixL, q_ixS, q_slT, q_slL, q_slS, q_set, q_lenT, q_lenK, q_lenS, q_lenL, q_abs, q_intF, q_max, q_min, q_tupT, q_tupL, q_lstT, q_lstL, q_app, q_ext, q_joinL, q_stw, q_seq, q_lst, q_rng, q_rng2, q_zpT, q_zpL, q_truN, q_truB, q_truI, q_truT, q_truL, t_non, t_bl, t_int, t_str, t_tup, q_isiN, q_isiB, q_isiI, q_isiS, q_isiT, i_NoneType_int, i_NoneType_bool, i_NoneType_tuple, i_NoneType_list, i_NoneType_str, i_bool_int, i_bool_bool, i_bool_tuple, i_bool_list, i_bool_str, i_int_int, i_int_bool, i_int_tuple, i_int_list, i_int_str, i_str_int, i_str_bool, i_str_tuple, i_str_list, i_str_str, i_tuple_int, i_tuple_bool, i_tuple_tuple, i_tuple_list, i_tuple_str, i_list_int, i_list_bool, i_list_tuple, i_list_list, i_list_str, i_dict_int, i_dict_bool, i_dict_tuple, i_dict_list, i_dict_str, up_same, g_02, g_02', g_01, g_11, at_0, at_1, ix_0, ix_1, Option.some.injEq, HQ.lst.injEq, exists_eq_left', exists_eq_left, exists_and_left, exists_eq', exists_eq, decide_eq_true_eq, if_true, if_false, ite_true, ite_false, Bool.false_eq_true, reduceIte, reduceCtorEq, Bool.not_true, Bool.not_false, Nat.zero_add, Nat.reduceAdd, Nat.reduceSub, Nat.reduceLeDiff, Nat.reduceLT, Int.reduceLT, Int.reduceLE, Int.reduceEq, Int.reduceNe, Nat.reduceEqDiff, Int.reduceToNat, Int.reducePow, Int.reduceMul, Int.reduceAdd, Int.reduceSub, Int.reduceNeg, and_true, true_and, decide_true, decide_false]
  refine take_of bx0 (by decide) (by decide) fun m S2 hm0 hm1 n2 => ?_
  try simp only [rVar, rC, rBin, rUn, rTst, rChn, rTru, rAnd, rOr, rNot, rAndV, rOrV, rNotV, rIf, rNil, rCons, rTup, rLst, rFn, rCall, rCallK, rSl, rPrt, rNoP, rMt, gNm, q_gN, q_gC, q_gTp, gSb, rNext, rSeq, rDrop, rRet, rRetN, rBrk, rCnt, rIfS, rSet, rPar, rFor, iSeq, iLst, iRg1, iRg2, iZp, iEn, iStrD, rLc, rYes, q_isi2, q_i2N, q_i2B, q_i2I, q_i2S, q_i2T, q_i2L, q_j2N, q_j2B, q_j2I, q_j2S, q_j2T, q_j2L, q_gt2, q_gtT, q_en, q_int2, q_strD, q_rev, q_ixo, q_ext2, q_extT, En.x, wipeD, start', List.getElem?_cons_zero, List.getElem?_cons_succ, List.set_cons_zero, List.set_cons_succ, List.map_cons, List.map_nil, List.length_cons, List.length_nil, List.cons_append, List.nil_append, List.replicate_succ, List.replicate_zero, id, q_asB, q_asI, q_add, q_addS, q_addT, q_addL, q_int, q_sub, q_mul, q_fdiv, q_mod, q_pow, q_neg, q_le, q_ge, q_gt, q_lt, q_ltT, q_isN, q_isB, q_isBi, q_isBs, q_isBn, q_isBt, q_isnt, n_non, n_bl, n_int, n_str, n_tup, n_ref, q_eq, q_eqS, q_eqB, q_ixT, q_ixK, q_ixL, q_ixS, q_slT, q_slL, q_slS, q_set, q_lenT, q_lenK, q_lenS, q_lenL, q_abs, q_intF, q_max, q_min, q_tupT, q_tupL, q_lstT, q_lstL, q_app, q_ext, q_joinL, q_stw, q_seq, q_lst, q_rng, q_rng2, q_zpT, q_zpL, q_truN, q_truB, q_truI, q_truT, q_truL, t_non, t_bl, t_int, t_str, t_tup, q_isiN, q_isiB, q_isiI, q_isiS, q_isiT, i_NoneType_int, i_NoneType_bool, i_NoneType_tuple, i_NoneType_list, i_NoneType_str, i_bool_int, i_bool_bool, i_bool_tuple, i_bool_list, i_bool_str, i_int_int, i_int_bool, i_int_tuple, i_int_list, i_int_str, i_str_int, i_str_bool, i_str_tuple, i_str_list, i_str_str, i_tuple_int, i_tuple_bool, i_tuple_tuple, i_tuple_list, i_tuple_str, i_list_int, i_list_bool, i_list_tuple, i_list_list, i_list_str, i_dict_int, i_dict_bool, i_dict_tuple, i_dict_list, i_dict_str, up_same, g_02, g_02', g_01, g_11, at_0, at_1, ix_0, ix_1, Option.some.injEq, HQ.lst.injEq, exists_eq_left', exists_eq_left, exists_and_left, exists_eq', exists_eq, decide_eq_true_eq, if_true, if_false, ite_true, ite_false, Bool.false_eq_true, reduceIte, reduceCtorEq, Bool.not_true, Bool.not_false, Nat.zero_add, Nat.reduceAdd, Nat.reduceSub, Nat.reduceLeDiff, Nat.reduceLT, Int.reduceLT, Int.reduceLE, Int.reduceEq, Int.reduceNe, Nat.reduceEqDiff, Int.reduceToNat, Int.reducePow, Int.reduceMul, Int.reduceAdd, Int.reduceSub, Int.reduceNeg, and_true, true_and, decide_true, decide_false]
  refine ⟨⟨by omega, by omega⟩, ?_⟩
  refine lc_draw (fun S' => Bx S' b) (fun d => ∃ l, d = letD l ∧ LtOk l) (fun _ _ => trivial) _ _ _ (fun x _ S' Q' hi q => ?_) (by rw [rangeD_len]; simp; omega) (by simp) n2.bx (fun acc S3 hl3 ha b3 => ?_)
  · simp only [rVar, rC, rBin, rUn, rTst, rChn, rTru, rAnd, rOr, rNot, rAndV, rOrV, rNotV, rIf, rNil, rCons, rTup, rLst, rFn, rCall, rCallK, rSl, rPrt, rNoP, rMt, gNm, q_gN, q_gC, q_gTp, gSb, rNext, rSeq, rDrop, rRet, rRetN, rBrk, rCnt, rIfS, rSet, rPar, rFor, iSeq, iLst, iRg1, iRg2, iZp, iEn, iStrD, rLc, rYes, q_isi2, q_i2N, q_i2B, q_i2I, q_i2S, q_i2T, q_i2L, q_j2N, q_j2B, q_j2I, q_j2S, q_j2T, q_j2L, q_gt2, q_gtT, q_en, q_int2, q_strD, q_rev, q_ixo, q_ext2, q_extT, En.x, wipeD, start', List.getElem?_cons_zero, List.getElem?_cons_succ, List.set_cons_zero, List.set_cons_succ, List.map_cons, List.map_nil, List.length_cons, List.length_nil, List.cons_append, List.nil_append, List.replicate_succ, List.replicate_zero, id, q_asB, q_asI, q_add, q_addS, q_addT, q_addL, q_int, q_sub, q_mul, q_fdiv, q_mod, q_pow, q_neg, q_le, q_ge, q_gt, q_lt, q_ltT, q_isN, q_isB, q_isBi, q_isBs, q_isBn, q_isBt, q_isnt, n_non, n_bl, n_int, n_str, n_tup, n_ref, q_eq, q_eqS, q_eqB, q_ixT, q_ixK, q_ixL, q_ixS, q_slT, q_slL, q_slS, q_set, q_lenT, q_lenK, q_lenS, q_lenL, q_abs, q_intF, q_max, q_min, q_tupT, q_tupL, q_lstT, q_lstL, q_app, q_ext, q_joinL, q_stw, q_seq, q_lst, q_rng, q_rng2, q_zpT, q_zpL, q_truN, q_truB, q_truI, q_truT, q_truL, t_non, t_bl, t_int, t_str, t_tup, q_isiN, q_isiB, q_isiI, q_isiS, q_isiT, i_NoneType_int, i_NoneType_bool, i_NoneType_tuple, i_NoneType_list, i_NoneType_str, i_bool_int, i_bool_bool, i_bool_tuple, i_bool_list, i_bool_str, i_int_int, i_int_bool, i_int_tuple, i_int_list, i_int_str, i_str_int, i_str_bool, i_str_tuple, i_str_list, i_str_str, i_tuple_int, i_tuple_bool, i_tuple_tuple, i_tuple_list, i_tuple_str, i_list_int, i_list_bool, i_list_tuple, i_list_list, i_list_str, i_dict_int, i_dict_bool, i_dict_tuple, i_dict_list, i_dict_str, up_same, g_02, g_02', g_01, g_11, at_0, at_1, ix_0, ix_1, Option.some.injEq, HQ.lst.injEq, exists_eq_left', exists_eq_left, exists_and_left, exists_eq', exists_eq, decide_eq_true_eq, if_true, if_false, ite_true, ite_false, Bool.false_eq_true, reduceIte, reduceCtorEq, Bool.not_true, Bool.not_false, Nat.zero_add, Nat.reduceAdd, Nat.reduceSub, Nat.reduceLeDiff, Nat.reduceLT, Int.reduceLT, Int.reduceLE, Int.reduceEq, Int.reduceNe, Nat.reduceEqDiff, Int.reduceToNat, Int.reducePow, Int.reduceMul, Int.reduceAdd, Int.reduceSub, Int.reduceNeg, and_true, true_and, decide_true, decide_false]
    exact letter_of hi fun l S'' hl n => q _ _ ⟨l, rfl, hl⟩ n.bx
  obtain ⟨ls, rfl, hls⟩ := lets_of ha
  have hlen : ls.length ≤ 4 := by
    rw [List.length_map, rangeD_len] at hl3
    simp only [List.length_nil] at hl3; omega
  intro f hf
  have hf3 : up S3 f (.lst (ls.map letD)) f = some (.lst (ls.map letD)) := up_same
  generalize up S3 f (.lst (ls.map letD)) = S4 at hf3 ⊢
  refine loop_idx (fun i σ S' => S' f = some (.lst (ls.map letD)) ∧ ∃ y1 y5 y6 : Option D, σ = [some (.kl (ns.map D.int)), y1, some (.int (0 + (i0 : Int))), some (.ref b), some (.ref f), y5, y6]) (fun _ _ _ _ h => h.1) (fun i x σ S' hx hp' N2 hN2 => ?_) (fun σ S' hp' => ?_) ⟨hf3, _, _, _, rfl⟩
  · obtain ⟨hS, y1, y5, y6, rfl⟩ := hp'
    rw [List.getElem?_map] at hx
    cases he : ls[i]? with
    | none => rw [he] at hx; cases hx
    | some e =>
      rw [he] at hx; cases hx
      have hb := hls e (List.mem_of_getElem? he)
      simp only [rVar, rC, rBin, rUn, rTst, rChn, rTru, rAnd, rOr, rNot, rAndV, rOrV, rNotV, rIf, rNil, rCons, rTup, rLst, rFn, rCall, rCallK, rSl, rPrt, rNoP, rMt, gNm, q_gN, q_gC, q_gTp, gSb, rNext, rSeq, rDrop, rRet, rRetN, rBrk, rCnt, rIfS, rSet, rPar, rFor, iSeq, iLst, iRg1, iRg2, iZp, iEn, iStrD, rLc, rYes, q_isi2, q_i2N, q_i2B, q_i2I, q_i2S, q_i2T, q_i2L, q_j2N, q_j2B, q_j2I, q_j2S, q_j2T, q_j2L, q_gt2, q_gtT, q_en, q_int2, q_strD, q_rev, q_ixo, q_ext2, q_extT, En.x, wipeD, start', List.getElem?_cons_zero, List.getElem?_cons_succ, List.set_cons_zero, List.set_cons_succ, List.map_cons, List.map_nil, List.length_cons, List.length_nil, List.cons_append, List.nil_append, List.replicate_succ, List.replicate_zero, id, q_asB, q_asI, q_add, q_addS, q_addT, q_addL, q_int, q_sub, q_mul, q_fdiv, q_mod, q_pow, q_neg, q_le, q_ge, q_gt, q_lt, q_ltT, q_isN, q_isB, q_isBi, q_isBs, q_isBn, q_isBt, q_isnt, n_non, n_bl, n_int, n_str, n_tup, n_ref, q_eq, q_eqS, q_eqB, q_ixT, q_ixK, q_ixL, q_ixS, q_slT, q_slL, q_slS, q_set, q_lenT, q_lenK, q_lenS, q_lenL, q_abs, q_intF, q_max, q_min, q_tupT, q_tupL, q_lstT, q_lstL, q_app, q_ext, q_joinL, q_stw, q_seq, q_lst, q_rng, q_rng2, q_zpT, q_zpL, q_truN, q_truB, q_truI, q_truT, q_truL, t_non, t_bl, t_int, t_str, t_tup, q_isiN, q_isiB, q_isiI, q_isiS, q_isiT, i_NoneType_int, i_NoneType_bool, i_NoneType_tuple, i_NoneType_list, i_NoneType_str, i_bool_int, i_bool_bool, i_bool_tuple, i_bool_list, i_bool_str, i_int_int, i_int_bool, i_int_tuple, i_int_list, i_int_str, i_str_int, i_str_bool, i_str_tuple, i_str_list, i_str_str, i_tuple_int, i_tuple_bool, i_tuple_tuple, i_tuple_list, i_tuple_str, i_list_int, i_list_bool, i_list_tuple, i_list_list, i_list_str, i_dict_int, i_dict_bool, i_dict_tuple, i_dict_list, i_dict_str, up_same, g_02, g_02', g_01, g_11, at_0, at_1, ix_0, ix_1, Option.some.injEq, HQ.lst.injEq, exists_eq_left', exists_eq_left, exists_and_left, exists_eq', exists_eq, decide_eq_true_eq, if_true, if_false, ite_true, ite_false, Bool.false_eq_true, reduceIte, reduceCtorEq, Bool.not_true, Bool.not_false, Nat.zero_add, Nat.reduceAdd, Nat.reduceSub, Nat.reduceLeDiff, Nat.reduceLT, Int.reduceLT, Int.reduceLE, Int.reduceEq, Int.reduceNe, Nat.reduceEqDiff, Int.reduceToNat, Int.reducePow, Int.reduceMul, Int.reduceAdd, Int.reduceSub, Int.reduceNeg, and_true, true_and, decide_true, decide_false]
      refine ⟨e, rfl, hb, fun S2 l2 => ?_⟩
      refine ⟨e, rfl, hb, fun u S3 l3 hu hS3 => ?_⟩
      simp only [rVar, rC, rBin, rUn, rTst, rChn, rTru, rAnd, rOr, rNot, rAndV, rOrV, rNotV, rIf, rNil, rCons, rTup, rLst, rFn, rCall, rCallK, rSl, rPrt, rNoP, rMt, gNm, q_gN, q_gC, q_gTp, gSb, rNext, rSeq, rDrop, rRet, rRetN, rBrk, rCnt, rIfS, rSet, rPar, rFor, iSeq, iLst, iRg1, iRg2, iZp, iEn, iStrD, rLc, rYes, q_isi2, q_i2N, q_i2B, q_i2I, q_i2S, q_i2T, q_i2L, q_j2N, q_j2B, q_j2I, q_j2S, q_j2T, q_j2L, q_gt2, q_gtT, q_en, q_int2, q_strD, q_rev, q_ixo, q_ext2, q_extT, En.x, wipeD, start', List.getElem?_cons_zero, List.getElem?_cons_succ, List.set_cons_zero, List.set_cons_succ, List.map_cons, List.map_nil, List.length_cons, List.length_nil, List.cons_append, List.nil_append, List.replicate_succ, List.replicate_zero, id, q_asB, q_asI, q_add, q_addS, q_addT, q_addL, q_int, q_sub, q_mul, q_fdiv, q_mod, q_pow, q_neg, q_le, q_ge, q_gt, q_lt, q_ltT, q_isN, q_isB, q_isBi, q_isBs, q_isBn, q_isBt, q_isnt, n_non, n_bl, n_int, n_str, n_tup, n_ref, q_eq, q_eqS, q_eqB, q_ixT, q_ixK, q_ixL, q_ixS, q_slT, q_slL, q_slS, q_set, q_lenT, q_lenK, q_lenS, q_lenL, q_abs, q_intF, q_max, q_min, q_tupT, q_tupL, q_lstT, q_lstL, q_app, q_ext, q_joinL, q_stw, q_seq, q_lst, q_rng, q_rng2, q_zpT, q_zpL, q_truN, q_truB, q_truI, q_truT, q_truL, t_non, t_bl, t_int, t_str, t_tup, q_isiN, q_isiB, q_isiI, q_isiS, q_isiT, i_NoneType_int, i_NoneType_bool, i_NoneType_tuple, i_NoneType_list, i_NoneType_str, i_bool_int, i_bool_bool, i_bool_tuple, i_bool_list, i_bool_str, i_int_int, i_int_bool, i_int_tuple, i_int_list, i_int_str, i_str_int, i_str_bool, i_str_tuple, i_str_list, i_str_str, i_tuple_int, i_tuple_bool, i_tuple_tuple, i_tuple_list, i_tuple_str, i_list_int, i_list_bool, i_list_tuple, i_list_list, i_list_str, i_dict_int, i_dict_bool, i_dict_tuple, i_dict_list, i_dict_str, up_same, g_02, g_02', g_01, g_11, at_0, at_1, ix_0, ix_1, Option.some.injEq, HQ.lst.injEq, exists_eq_left', exists_eq_left, exists_and_left, exists_eq', exists_eq, decide_eq_true_eq, if_true, if_false, ite_true, ite_false, Bool.false_eq_true, reduceIte, reduceCtorEq, Bool.not_true, Bool.not_false, Nat.zero_add, Nat.reduceAdd, Nat.reduceSub, Nat.reduceLeDiff, Nat.reduceLT, Int.reduceLT, Int.reduceLE, Int.reduceEq, Int.reduceNe, Nat.reduceEqDiff, Int.reduceToNat, Int.reducePow, Int.reduceMul, Int.reduceAdd, Int.reduceSub, Int.reduceNeg, and_true, true_and, decide_true, decide_false, hS3]
      refine ⟨_, rfl, pn_ints (Nat.le_trans (formL_len hb) (by decide)), ?_⟩
      simp only [rVar, rC, rBin, rUn, rTst, rChn, rTru, rAnd, rOr, rNot, rAndV, rOrV, rNotV, rIf, rNil, rCons, rTup, rLst, rFn, rCall, rCallK, rSl, rPrt, rNoP, rMt, gNm, q_gN, q_gC, q_gTp, gSb, rNext, rSeq, rDrop, rRet, rRetN, rBrk, rCnt, rIfS, rSet, rPar, rFor, iSeq, iLst, iRg1, iRg2, iZp, iEn, iStrD, rLc, rYes, q_isi2, q_i2N, q_i2B, q_i2I, q_i2S, q_i2T, q_i2L, q_j2N, q_j2B, q_j2I, q_j2S, q_j2T, q_j2L, q_gt2, q_gtT, q_en, q_int2, q_strD, q_rev, q_ixo, q_ext2, q_extT, En.x, wipeD, start', List.getElem?_cons_zero, List.getElem?_cons_succ, List.set_cons_zero, List.set_cons_succ, List.map_cons, List.map_nil, List.length_cons, List.length_nil, List.cons_append, List.nil_append, List.replicate_succ, List.replicate_zero, id, q_asB, q_asI, q_add, q_addS, q_addT, q_addL, q_int, q_sub, q_mul, q_fdiv, q_mod, q_pow, q_neg, q_le, q_ge, q_gt, q_lt, q_ltT, q_isN, q_isB, q_isBi, q_isBs, q_isBn, q_isBt, q_isnt, n_non, n_bl, n_int, n_str, n_tup, n_ref, q_eq, q_eqS, q_eqB, q_ixT, q_ixK, q_ixL, q_ixS, q_slT, q_slL, q_slS, q_set, q_lenT, q_lenK, q_lenS, q_lenL, q_abs, q_intF, q_max, q_min, q_tupT, q_tupL, q_lstT, q_lstL, q_app, q_ext, q_joinL, q_stw, q_seq, q_lst, q_rng, q_rng2, q_zpT, q_zpL, q_truN, q_truB, q_truI, q_truT, q_truL, t_non, t_bl, t_int, t_str, t_tup, q_isiN, q_isiB, q_isiI, q_isiS, q_isiT, i_NoneType_int, i_NoneType_bool, i_NoneType_tuple, i_NoneType_list, i_NoneType_str, i_bool_int, i_bool_bool, i_bool_tuple, i_bool_list, i_bool_str, i_int_int, i_int_bool, i_int_tuple, i_int_list, i_int_str, i_str_int, i_str_bool, i_str_tuple, i_str_list, i_str_str, i_tuple_int, i_tuple_bool, i_tuple_tuple, i_tuple_list, i_tuple_str, i_list_int, i_list_bool, i_list_tuple, i_list_list, i_list_str, i_dict_int, i_dict_bool, i_dict_tuple, i_dict_list, i_dict_str, up_same, g_02, g_02', g_01, g_11, at_0, at_1, ix_0, ix_1, Option.some.injEq, HQ.lst.injEq, exists_eq_left', exists_eq_left, exists_and_left, exists_eq', exists_eq, decide_eq_true_eq, if_true, if_false, ite_true, ite_false, Bool.false_eq_true, reduceIte, reduceCtorEq, Bool.not_true, Bool.not_false, Nat.zero_add, Nat.reduceAdd, Nat.reduceSub, Nat.reduceLeDiff, Nat.reduceLT, Int.reduceLT, Int.reduceLE, Int.reduceEq, Int.reduceNe, Nat.reduceEqDiff, Int.reduceToNat, Int.reducePow, Int.reduceMul, Int.reduceAdd, Int.reduceSub, Int.reduceNeg, and_true, true_and, decide_true, decide_false]
      exact hN2 _ _ ⟨l3 f _ (l2 f _ hS), _, _, _, rfl⟩
  obtain ⟨hS, y1, y5, y6, rfl⟩ := hp'
  simp only [rVar, rC, rBin, rUn, rTst, rChn, rTru, rAnd, rOr, rNot, rAndV, rOrV, rNotV, rIf, rNil, rCons, rTup, rLst, rFn, rCall, rCallK, rSl, rPrt, rNoP, rMt, gNm, q_gN, q_gC, q_gTp, gSb, rNext, rSeq, rDrop, rRet, rRetN, rBrk, rCnt, rIfS, rSet, rPar, rFor, iSeq, iLst, iRg1, iRg2, iZp, iEn, iStrD, rLc, rYes, q_isi2, q_i2N, q_i2B, q_i2I, q_i2S, q_i2T, q_i2L, q_j2N, q_j2B, q_j2I, q_j2S, q_j2T, q_j2L, q_gt2, q_gtT, q_en, q_int2, q_strD, q_rev, q_ixo, q_ext2, q_extT, En.x, wipeD, start', List.getElem?_cons_zero, List.getElem?_cons_succ, List.set_cons_zero, List.set_cons_succ, List.map_cons, List.map_nil, List.length_cons, List.length_nil, List.cons_append, List.nil_append, List.replicate_succ, List.replicate_zero, id, q_asB, q_asI, q_add, q_addS, q_addT, q_addL, q_int, q_sub, q_mul, q_fdiv, q_mod, q_pow, q_neg, q_le, q_ge, q_gt, q_lt, q_ltT, q_isN, q_isB, q_isBi, q_isBs, q_isBn, q_isBt, q_isnt, n_non, n_bl, n_int, n_str, n_tup, n_ref, q_eq, q_eqS, q_eqB, q_ixT, q_ixK, q_ixL, q_ixS, q_slT, q_slL, q_slS, q_set, q_lenT, q_lenK, q_lenS, q_lenL, q_abs, q_intF, q_max, q_min, q_tupT, q_tupL, q_lstT, q_lstL, q_app, q_ext, q_joinL, q_stw, q_seq, q_lst, q_rng, q_rng2, q_zpT, q_zpL, q_truN, q_truB, q_truI, q_truT, q_truL, t_non, t_bl, t_int, t_str, t_tup, q_isiN, q_isiB, q_isiI, q_isiS, q_isiT, i_NoneType_int, i_NoneType_bool, i_NoneType_tuple, i_NoneType_list, i_NoneType_str, i_bool_int, i_bool_bool, i_bool_tuple, i_bool_list, i_bool_str, i_int_int, i_int_bool, i_int_tuple, i_int_list, i_int_str, i_str_int, i_str_bool, i_str_tuple, i_str_list, i_str_str, i_tuple_int, i_tuple_bool, i_tuple_tuple, i_tuple_list, i_tuple_str, i_list_int, i_list_bool, i_list_tuple, i_list_list, i_list_str, i_dict_int, i_dict_bool, i_dict_tuple, i_dict_list, i_dict_str, up_same, g_02, g_02', g_01, g_11, at_0, at_1, ix_0, ix_1, Option.some.injEq, HQ.lst.injEq, exists_eq_left', exists_eq_left, exists_and_left, exists_eq', exists_eq, decide_eq_true_eq, if_true, if_false, ite_true, ite_false, Bool.false_eq_true, reduceIte, reduceCtorEq, Bool.not_true, Bool.not_false, Nat.zero_add, Nat.reduceAdd, Nat.reduceSub, Nat.reduceLeDiff, Nat.reduceLT, Int.reduceLT, Int.reduceLE, Int.reduceEq, Int.reduceNe, Nat.reduceEqDiff, Int.reduceToNat, Int.reducePow, Int.reduceMul, Int.reduceAdd, Int.reduceSub, Int.reduceNeg, and_true, true_and, decide_true, decide_false, hS]
  refine ⟨ls, rfl, hls, by omega, fun S5 l5 => ?_⟩
  refine ⟨f, ls, rfl, l5 f _ hS, hls, by omega, fun u S6 l6 hu hS6 => ?_⟩
  simp only [rVar, rC, rBin, rUn, rTst, rChn, rTru, rAnd, rOr, rNot, rAndV, rOrV, rNotV, rIf, rNil, rCons, rTup, rLst, rFn, rCall, rCallK, rSl, rPrt, rNoP, rMt, gNm, q_gN, q_gC, q_gTp, gSb, rNext, rSeq, rDrop, rRet, rRetN, rBrk, rCnt, rIfS, rSet, rPar, rFor, iSeq, iLst, iRg1, iRg2, iZp, iEn, iStrD, rLc, rYes, q_isi2, q_i2N, q_i2B, q_i2I, q_i2S, q_i2T, q_i2L, q_j2N, q_j2B, q_j2I, q_j2S, q_j2T, q_j2L, q_gt2, q_gtT, q_en, q_int2, q_strD, q_rev, q_ixo, q_ext2, q_extT, En.x, wipeD, start', List.getElem?_cons_zero, List.getElem?_cons_succ, List.set_cons_zero, List.set_cons_succ, List.map_cons, List.map_nil, List.length_cons, List.length_nil, List.cons_append, List.nil_append, List.replicate_succ, List.replicate_zero, id, q_asB, q_asI, q_add, q_addS, q_addT, q_addL, q_int, q_sub, q_mul, q_fdiv, q_mod, q_pow, q_neg, q_le, q_ge, q_gt, q_lt, q_ltT, q_isN, q_isB, q_isBi, q_isBs, q_isBn, q_isBt, q_isnt, n_non, n_bl, n_int, n_str, n_tup, n_ref, q_eq, q_eqS, q_eqB, q_ixT, q_ixK, q_ixL, q_ixS, q_slT, q_slL, q_slS, q_set, q_lenT, q_lenK, q_lenS, q_lenL, q_abs, q_intF, q_max, q_min, q_tupT, q_tupL, q_lstT, q_lstL, q_app, q_ext, q_joinL, q_stw, q_seq, q_lst, q_rng, q_rng2, q_zpT, q_zpL, q_truN, q_truB, q_truI, q_truT, q_truL, t_non, t_bl, t_int, t_str, t_tup, q_isiN, q_isiB, q_isiI, q_isiS, q_isiT, i_NoneType_int, i_NoneType_bool, i_NoneType_tuple, i_NoneType_list, i_NoneType_str, i_bool_int, i_bool_bool, i_bool_tuple, i_bool_list, i_bool_str, i_int_int, i_int_bool, i_int_tuple, i_int_list, i_int_str, i_str_int, i_str_bool, i_str_tuple, i_str_list, i_str_str, i_tuple_int, i_tuple_bool, i_tuple_tuple, i_tuple_list, i_tuple_str, i_list_int, i_list_bool, i_list_tuple, i_list_list, i_list_str, i_dict_int, i_dict_bool, i_dict_tuple, i_dict_list, i_dict_str, up_same, g_02, g_02', g_01, g_11, at_0, at_1, ix_0, ix_1, Option.some.injEq, HQ.lst.injEq, exists_eq_left', exists_eq_left, exists_and_left, exists_eq', exists_eq, decide_eq_true_eq, if_true, if_false, ite_true, ite_false, Bool.false_eq_true, reduceIte, reduceCtorEq, Bool.not_true, Bool.not_false, Nat.zero_add, Nat.reduceAdd, Nat.reduceSub, Nat.reduceLeDiff, Nat.reduceLT, Int.reduceLT, Int.reduceLE, Int.reduceEq, Int.reduceNe, Nat.reduceEqDiff, Int.reduceToNat, Int.reducePow, Int.reduceMul, Int.reduceAdd, Int.reduceSub, Int.reduceNeg, and_true, true_and, decide_true, decide_false, hS6]
  have bnd : ∀ {xs : List Lt}, (∀ l ∈ xs, LtOk l) → xs.length ≤ 30 → ((xs.map formL).flatten).length ≤ 100000 := fun {xs} h1 h2 => by
    have := forms_len h1; have := Nat.mul_le_mul_left 2000 h2; omega
  refine ⟨_, rfl, pn_ints (bnd hls (by omega)), ?_⟩
  have h6 := l6 f _ (l5 f _ hS)
  simp only [rVar, rC, rBin, rUn, rTst, rChn, rTru, rAnd, rOr, rNot, rAndV, rOrV, rNotV, rIf, rNil, rCons, rTup, rLst, rFn, rCall, rCallK, rSl, rPrt, rNoP, rMt, gNm, q_gN, q_gC, q_gTp, gSb, rNext, rSeq, rDrop, rRet, rRetN, rBrk, rCnt, rIfS, rSet, rPar, rFor, iSeq, iLst, iRg1, iRg2, iZp, iEn, iStrD, rLc, rYes, q_isi2, q_i2N, q_i2B, q_i2I, q_i2S, q_i2T, q_i2L, q_j2N, q_j2B, q_j2I, q_j2S, q_j2T, q_j2L, q_gt2, q_gtT, q_en, q_int2, q_strD, q_rev, q_ixo, q_ext2, q_extT, En.x, wipeD, start', List.getElem?_cons_zero, List.getElem?_cons_succ, List.set_cons_zero, List.set_cons_succ, List.map_cons, List.map_nil, List.length_cons, List.length_nil, List.cons_append, List.nil_append, List.replicate_succ, List.replicate_zero, id, q_asB, q_asI, q_add, q_addS, q_addT, q_addL, q_int, q_sub, q_mul, q_fdiv, q_mod, q_pow, q_neg, q_le, q_ge, q_gt, q_lt, q_ltT, q_isN, q_isB, q_isBi, q_isBs, q_isBn, q_isBt, q_isnt, n_non, n_bl, n_int, n_str, n_tup, n_ref, q_eq, q_eqS, q_eqB, q_ixT, q_ixK, q_ixL, q_ixS, q_slT, q_slL, q_slS, q_set, q_lenT, q_lenK, q_lenS, q_lenL, q_abs, q_intF, q_max, q_min, q_tupT, q_tupL, q_lstT, q_lstL, q_app, q_ext, q_joinL, q_stw, q_seq, q_lst, q_rng, q_rng2, q_zpT, q_zpL, q_truN, q_truB, q_truI, q_truT, q_truL, t_non, t_bl, t_int, t_str, t_tup, q_isiN, q_isiB, q_isiI, q_isiS, q_isiT, i_NoneType_int, i_NoneType_bool, i_NoneType_tuple, i_NoneType_list, i_NoneType_str, i_bool_int, i_bool_bool, i_bool_tuple, i_bool_list, i_bool_str, i_int_int, i_int_bool, i_int_tuple, i_int_list, i_int_str, i_str_int, i_str_bool, i_str_tuple, i_str_list, i_str_str, i_tuple_int, i_tuple_bool, i_tuple_tuple, i_tuple_list, i_tuple_str, i_list_int, i_list_bool, i_list_tuple, i_list_list, i_list_str, i_dict_int, i_dict_bool, i_dict_tuple, i_dict_list, i_dict_str, up_same, g_02, g_02', g_01, g_11, at_0, at_1, ix_0, ix_1, Option.some.injEq, HQ.lst.injEq, exists_eq_left', exists_eq_left, exists_and_left, exists_eq', exists_eq, decide_eq_true_eq, if_true, if_false, ite_true, ite_false, Bool.false_eq_true, reduceIte, reduceCtorEq, Bool.not_true, Bool.not_false, Nat.zero_add, Nat.reduceAdd, Nat.reduceSub, Nat.reduceLeDiff, Nat.reduceLT, Int.reduceLT, Int.reduceLE, Int.reduceEq, Int.reduceNe, Nat.reduceEqDiff, Int.reduceToNat, Int.reducePow, Int.reduceMul, Int.reduceAdd, Int.reduceSub, Int.reduceNeg, and_true, true_and, decide_true, decide_false, q_rev h6]
  intro r hr
  refine ⟨_, up_get hr h6, by simp; omega, fun w hw => ?_⟩
  have hw7 : up (up S6 r (.lst (ls.map letD).reverse)) w (.lst ((ls.map letD).reverse ++ ls.map letD)) w = some (.lst ((ls.reverse ++ ls).map letD)) := by rw [up_same]; simp
  have hf7 := up_get (q := .lst ((ls.map letD).reverse ++ ls.map letD)) hw (up_get (q := .lst (ls.map letD).reverse) hr h6)
  generalize up (up S6 r (.lst (ls.map letD).reverse)) w (.lst ((ls.map letD).reverse ++ ls.map letD)) = S7 at hw7 hf7 ⊢
  have hbk : ∀ l ∈ ls.reverse ++ ls, LtOk l := fun l h => by
    rcases List.mem_append.mp h with h | h
    · exact hls l (List.mem_reverse.mp h)
    · exact hls l h
  have hbl : (ls.reverse ++ ls).length ≤ 30 := by simp; omega
  refine ⟨ls.reverse ++ ls, by simp, hbk, hbl, fun S8 l8 => ?_⟩
  refine ⟨w, ls.reverse ++ ls, rfl, l8 w _ hw7, hbk, hbl, fun u2 S9 l9 hu2 hS9 => ?_⟩
  simp only [rVar, rC, rBin, rUn, rTst, rChn, rTru, rAnd, rOr, rNot, rAndV, rOrV, rNotV, rIf, rNil, rCons, rTup, rLst, rFn, rCall, rCallK, rSl, rPrt, rNoP, rMt, gNm, q_gN, q_gC, q_gTp, gSb, rNext, rSeq, rDrop, rRet, rRetN, rBrk, rCnt, rIfS, rSet, rPar, rFor, iSeq, iLst, iRg1, iRg2, iZp, iEn, iStrD, rLc, rYes, q_isi2, q_i2N, q_i2B, q_i2I, q_i2S, q_i2T, q_i2L, q_j2N, q_j2B, q_j2I, q_j2S, q_j2T, q_j2L, q_gt2, q_gtT, q_en, q_int2, q_strD, q_rev, q_ixo, q_ext2, q_extT, En.x, wipeD, start', List.getElem?_cons_zero, List.getElem?_cons_succ, List.set_cons_zero, List.set_cons_succ, List.map_cons, List.map_nil, List.length_cons, List.length_nil, List.cons_append, List.nil_append, List.replicate_succ, List.replicate_zero, id, q_asB, q_asI, q_add, q_addS, q_addT, q_addL, q_int, q_sub, q_mul, q_fdiv, q_mod, q_pow, q_neg, q_le, q_ge, q_gt, q_lt, q_ltT, q_isN, q_isB, q_isBi, q_isBs, q_isBn, q_isBt, q_isnt, n_non, n_bl, n_int, n_str, n_tup, n_ref, q_eq, q_eqS, q_eqB, q_ixT, q_ixK, q_ixL, q_ixS, q_slT, q_slL, q_slS, q_set, q_lenT, q_lenK, q_lenS, q_lenL, q_abs, q_intF, q_max, q_min, q_tupT, q_tupL, q_lstT, q_lstL, q_app, q_ext, q_joinL, q_stw, q_seq, q_lst, q_rng, q_rng2, q_zpT, q_zpL, q_truN, q_truB, q_truI, q_truT, q_truL, t_non, t_bl, t_int, t_str, t_tup, q_isiN, q_isiB, q_isiI, q_isiS, q_isiT, i_NoneType_int, i_NoneType_bool, i_NoneType_tuple, i_NoneType_list, i_NoneType_str, i_bool_int, i_bool_bool, i_bool_tuple, i_bool_list, i_bool_str, i_int_int, i_int_bool, i_int_tuple, i_int_list, i_int_str, i_str_int, i_str_bool, i_str_tuple, i_str_list, i_str_str, i_tuple_int, i_tuple_bool, i_tuple_tuple, i_tuple_list, i_tuple_str, i_list_int, i_list_bool, i_list_tuple, i_list_list, i_list_str, i_dict_int, i_dict_bool, i_dict_tuple, i_dict_list, i_dict_str, up_same, g_02, g_02', g_01, g_11, at_0, at_1, ix_0, ix_1, Option.some.injEq, HQ.lst.injEq, exists_eq_left', exists_eq_left, exists_and_left, exists_eq', exists_eq, decide_eq_true_eq, if_true, if_false, ite_true, ite_false, Bool.false_eq_true, reduceIte, reduceCtorEq, Bool.not_true, Bool.not_false, Nat.zero_add, Nat.reduceAdd, Nat.reduceSub, Nat.reduceLeDiff, Nat.reduceLT, Int.reduceLT, Int.reduceLE, Int.reduceEq, Int.reduceNe, Nat.reduceEqDiff, Int.reduceToNat, Int.reducePow, Int.reduceMul, Int.reduceAdd, Int.reduceSub, Int.reduceNeg, and_true, true_and, decide_true, decide_false, hS9]
  refine ⟨_, rfl, pn_ints (bnd hbk hbl), ?_⟩
  have h9 := l9 f _ (l8 f _ hf7)
  simp only [rVar, rC, rBin, rUn, rTst, rChn, rTru, rAnd, rOr, rNot, rAndV, rOrV, rNotV, rIf, rNil, rCons, rTup, rLst, rFn, rCall, rCallK, rSl, rPrt, rNoP, rMt, gNm, q_gN, q_gC, q_gTp, gSb, rNext, rSeq, rDrop, rRet, rRetN, rBrk, rCnt, rIfS, rSet, rPar, rFor, iSeq, iLst, iRg1, iRg2, iZp, iEn, iStrD, rLc, rYes, q_isi2, q_i2N, q_i2B, q_i2I, q_i2S, q_i2T, q_i2L, q_j2N, q_j2B, q_j2I, q_j2S, q_j2T, q_j2L, q_gt2, q_gtT, q_en, q_int2, q_strD, q_rev, q_ixo, q_ext2, q_extT, En.x, wipeD, start', List.getElem?_cons_zero, List.getElem?_cons_succ, List.set_cons_zero, List.set_cons_succ, List.map_cons, List.map_nil, List.length_cons, List.length_nil, List.cons_append, List.nil_append, List.replicate_succ, List.replicate_zero, id, q_asB, q_asI, q_add, q_addS, q_addT, q_addL, q_int, q_sub, q_mul, q_fdiv, q_mod, q_pow, q_neg, q_le, q_ge, q_gt, q_lt, q_ltT, q_isN, q_isB, q_isBi, q_isBs, q_isBn, q_isBt, q_isnt, n_non, n_bl, n_int, n_str, n_tup, n_ref, q_eq, q_eqS, q_eqB, q_ixT, q_ixK, q_ixL, q_ixS, q_slT, q_slL, q_slS, q_set, q_lenT, q_lenK, q_lenS, q_lenL, q_abs, q_intF, q_max, q_min, q_tupT, q_tupL, q_lstT, q_lstL, q_app, q_ext, q_joinL, q_stw, q_seq, q_lst, q_rng, q_rng2, q_zpT, q_zpL, q_truN, q_truB, q_truI, q_truT, q_truL, t_non, t_bl, t_int, t_str, t_tup, q_isiN, q_isiB, q_isiI, q_isiS, q_isiT, i_NoneType_int, i_NoneType_bool, i_NoneType_tuple, i_NoneType_list, i_NoneType_str, i_bool_int, i_bool_bool, i_bool_tuple, i_bool_list, i_bool_str, i_int_int, i_int_bool, i_int_tuple, i_int_list, i_int_str, i_str_int, i_str_bool, i_str_tuple, i_str_list, i_str_str, i_tuple_int, i_tuple_bool, i_tuple_tuple, i_tuple_list, i_tuple_str, i_list_int, i_list_bool, i_list_tuple, i_list_list, i_list_str, i_dict_int, i_dict_bool, i_dict_tuple, i_dict_list, i_dict_str, up_same, g_02, g_02', g_01, g_11, at_0, at_1, ix_0, ix_1, Option.some.injEq, HQ.lst.injEq, exists_eq_left', exists_eq_left, exists_and_left, exists_eq', exists_eq, decide_eq_true_eq, if_true, if_false, ite_true, ite_false, Bool.false_eq_true, reduceIte, reduceCtorEq, Bool.not_true, Bool.not_false, Nat.zero_add, Nat.reduceAdd, Nat.reduceSub, Nat.reduceLeDiff, Nat.reduceLT, Int.reduceLT, Int.reduceLE, Int.reduceEq, Int.reduceNe, Nat.reduceEqDiff, Int.reduceToNat, Int.reducePow, Int.reduceMul, Int.reduceAdd, Int.reduceSub, Int.reduceNeg, and_true, true_and, decide_true, decide_false, h9, List.length_map]
  cases ls with
  | nil =>
    simp only [rVar, rC, rBin, rUn, rTst, rChn, rTru, rAnd, rOr, rNot, rAndV, rOrV, rNotV, rIf, rNil, rCons, rTup, rLst, rFn, rCall, rCallK, rSl, rPrt, rNoP, rMt, gNm, q_gN, q_gC, q_gTp, gSb, rNext, rSeq, rDrop, rRet, rRetN, rBrk, rCnt, rIfS, rSet, rPar, rFor, iSeq, iLst, iRg1, iRg2, iZp, iEn, iStrD, rLc, rYes, q_isi2, q_i2N, q_i2B, q_i2I, q_i2S, q_i2T, q_i2L, q_j2N, q_j2B, q_j2I, q_j2S, q_j2T, q_j2L, q_gt2, q_gtT, q_en, q_int2, q_strD, q_rev, q_ixo, q_ext2, q_extT, En.x, wipeD, start', List.getElem?_cons_zero, List.getElem?_cons_succ, List.set_cons_zero, List.set_cons_succ, List.map_cons, List.map_nil, List.length_cons, List.length_nil, List.cons_append, List.nil_append, List.replicate_succ, List.replicate_zero, id, q_asB, q_asI, q_add, q_addS, q_addT, q_addL, q_int, q_sub, q_mul, q_fdiv, q_mod, q_pow, q_neg, q_le, q_ge, q_gt, q_lt, q_ltT, q_isN, q_isB, q_isBi, q_isBs, q_isBn, q_isBt, q_isnt, n_non, n_bl, n_int, n_str, n_tup, n_ref, q_eq, q_eqS, q_eqB, q_ixT, q_ixK, q_ixL, q_ixS, q_slT, q_slL, q_slS, q_set, q_lenT, q_lenK, q_lenS, q_lenL, q_abs, q_intF, q_max, q_min, q_tupT, q_tupL, q_lstT, q_lstL, q_app, q_ext, q_joinL, q_stw, q_seq, q_lst, q_rng, q_rng2, q_zpT, q_zpL, q_truN, q_truB, q_truI, q_truT, q_truL, t_non, t_bl, t_int, t_str, t_tup, q_isiN, q_isiB, q_isiI, q_isiS, q_isiT, i_NoneType_int, i_NoneType_bool, i_NoneType_tuple, i_NoneType_list, i_NoneType_str, i_bool_int, i_bool_bool, i_bool_tuple, i_bool_list, i_bool_str, i_int_int, i_int_bool, i_int_tuple, i_int_list, i_int_str, i_str_int, i_str_bool, i_str_tuple, i_str_list, i_str_str, i_tuple_int, i_tuple_bool, i_tuple_tuple, i_tuple_list, i_tuple_str, i_list_int, i_list_bool, i_list_tuple, i_list_list, i_list_str, i_dict_int, i_dict_bool, i_dict_tuple, i_dict_list, i_dict_str, up_same, g_02, g_02', g_01, g_11, at_0, at_1, ix_0, ix_1, Option.some.injEq, HQ.lst.injEq, exists_eq_left', exists_eq_left, exists_and_left, exists_eq', exists_eq, decide_eq_true_eq, if_true, if_false, ite_true, ite_false, Bool.false_eq_true, reduceIte, reduceCtorEq, Bool.not_true, Bool.not_false, Nat.zero_add, Nat.reduceAdd, Nat.reduceSub, Nat.reduceLeDiff, Nat.reduceLT, Int.reduceLT, Int.reduceLE, Int.reduceEq, Int.reduceNe, Nat.reduceEqDiff, Int.reduceToNat, Int.reducePow, Int.reduceMul, Int.reduceAdd, Int.reduceSub, Int.reduceNeg, and_true, true_and, decide_true, decide_false, List.length_nil]
    exact hN _ _ ⟨_, _, _, _, _, _, rfl⟩
  | cons e r2 =>
    have hb := hls e List.mem_cons_self
    have c0 : (0 : Int) < (((e :: r2).length : Nat) : Int) := by rw [List.length_cons]; omega
    rw [if_pos c0]
    refine ⟨letD e, at_0, e, rfl, hb, fun S10 l10 => ?_⟩
    refine ⟨_, l10 f _ h9, letD e, at_0, e, rfl, hb, fun u3 S11 l11 hu3 hS11 => ?_⟩
    simp only [rVar, rC, rBin, rUn, rTst, rChn, rTru, rAnd, rOr, rNot, rAndV, rOrV, rNotV, rIf, rNil, rCons, rTup, rLst, rFn, rCall, rCallK, rSl, rPrt, rNoP, rMt, gNm, q_gN, q_gC, q_gTp, gSb, rNext, rSeq, rDrop, rRet, rRetN, rBrk, rCnt, rIfS, rSet, rPar, rFor, iSeq, iLst, iRg1, iRg2, iZp, iEn, iStrD, rLc, rYes, q_isi2, q_i2N, q_i2B, q_i2I, q_i2S, q_i2T, q_i2L, q_j2N, q_j2B, q_j2I, q_j2S, q_j2T, q_j2L, q_gt2, q_gtT, q_en, q_int2, q_strD, q_rev, q_ixo, q_ext2, q_extT, En.x, wipeD, start', List.getElem?_cons_zero, List.getElem?_cons_succ, List.set_cons_zero, List.set_cons_succ, List.map_cons, List.map_nil, List.length_cons, List.length_nil, List.cons_append, List.nil_append, List.replicate_succ, List.replicate_zero, id, q_asB, q_asI, q_add, q_addS, q_addT, q_addL, q_int, q_sub, q_mul, q_fdiv, q_mod, q_pow, q_neg, q_le, q_ge, q_gt, q_lt, q_ltT, q_isN, q_isB, q_isBi, q_isBs, q_isBn, q_isBt, q_isnt, n_non, n_bl, n_int, n_str, n_tup, n_ref, q_eq, q_eqS, q_eqB, q_ixT, q_ixK, q_ixL, q_ixS, q_slT, q_slL, q_slS, q_set, q_lenT, q_lenK, q_lenS, q_lenL, q_abs, q_intF, q_max, q_min, q_tupT, q_tupL, q_lstT, q_lstL, q_app, q_ext, q_joinL, q_stw, q_seq, q_lst, q_rng, q_rng2, q_zpT, q_zpL, q_truN, q_truB, q_truI, q_truT, q_truL, t_non, t_bl, t_int, t_str, t_tup, q_isiN, q_isiB, q_isiI, q_isiS, q_isiT, i_NoneType_int, i_NoneType_bool, i_NoneType_tuple, i_NoneType_list, i_NoneType_str, i_bool_int, i_bool_bool, i_bool_tuple, i_bool_list, i_bool_str, i_int_int, i_int_bool, i_int_tuple, i_int_list, i_int_str, i_str_int, i_str_bool, i_str_tuple, i_str_list, i_str_str, i_tuple_int, i_tuple_bool, i_tuple_tuple, i_tuple_list, i_tuple_str, i_list_int, i_list_bool, i_list_tuple, i_list_list, i_list_str, i_dict_int, i_dict_bool, i_dict_tuple, i_dict_list, i_dict_str, up_same, g_02, g_02', g_01, g_11, at_0, at_1, ix_0, ix_1, Option.some.injEq, HQ.lst.injEq, exists_eq_left', exists_eq_left, exists_and_left, exists_eq', exists_eq, decide_eq_true_eq, if_true, if_false, ite_true, ite_false, Bool.false_eq_true, reduceIte, reduceCtorEq, Bool.not_true, Bool.not_false, Nat.zero_add, Nat.reduceAdd, Nat.reduceSub, Nat.reduceLeDiff, Nat.reduceLT, Int.reduceLT, Int.reduceLE, Int.reduceEq, Int.reduceNe, Nat.reduceEqDiff, Int.reduceToNat, Int.reducePow, Int.reduceMul, Int.reduceAdd, Int.reduceSub, Int.reduceNeg, and_true, true_and, decide_true, decide_false, hS11]
    refine ⟨_, rfl, pn_ints (Nat.le_trans (formL_len hb) (by decide)), ?_⟩
    simp only [rVar, rC, rBin, rUn, rTst, rChn, rTru, rAnd, rOr, rNot, rAndV, rOrV, rNotV, rIf, rNil, rCons, rTup, rLst, rFn, rCall, rCallK, rSl, rPrt, rNoP, rMt, gNm, q_gN, q_gC, q_gTp, gSb, rNext, rSeq, rDrop, rRet, rRetN, rBrk, rCnt, rIfS, rSet, rPar, rFor, iSeq, iLst, iRg1, iRg2, iZp, iEn, iStrD, rLc, rYes, q_isi2, q_i2N, q_i2B, q_i2I, q_i2S, q_i2T, q_i2L, q_j2N, q_j2B, q_j2I, q_j2S, q_j2T, q_j2L, q_gt2, q_gtT, q_en, q_int2, q_strD, q_rev, q_ixo, q_ext2, q_extT, En.x, wipeD, start', List.getElem?_cons_zero, List.getElem?_cons_succ, List.set_cons_zero, List.set_cons_succ, List.map_cons, List.map_nil, List.length_cons, List.length_nil, List.cons_append, List.nil_append, List.replicate_succ, List.replicate_zero, id, q_asB, q_asI, q_add, q_addS, q_addT, q_addL, q_int, q_sub, q_mul, q_fdiv, q_mod, q_pow, q_neg, q_le, q_ge, q_gt, q_lt, q_ltT, q_isN, q_isB, q_isBi, q_isBs, q_isBn, q_isBt, q_isnt, n_non, n_bl, n_int, n_str, n_tup, n_ref, q_eq, q_eqS, q_eqB, q_ixT, q_ixK, q_ixL, q_ixS, q_slT, q_slL, q_slS, q_set, q_lenT, q_lenK, q_lenS, q_lenL, q_abs, q_intF, q_max, q_min, q_tupT, q_tupL, q_lstT, q_lstL, q_app, q_ext, q_joinL, q_stw, q_seq, q_lst, q_rng, q_rng2, q_zpT, q_zpL, q_truN, q_truB, q_truI, q_truT, q_truL, t_non, t_bl, t_int, t_str, t_tup, q_isiN, q_isiB, q_isiI, q_isiS, q_isiT, i_NoneType_int, i_NoneType_bool, i_NoneType_tuple, i_NoneType_list, i_NoneType_str, i_bool_int, i_bool_bool, i_bool_tuple, i_bool_list, i_bool_str, i_int_int, i_int_bool, i_int_tuple, i_int_list, i_int_str, i_str_int, i_str_bool, i_str_tuple, i_str_list, i_str_str, i_tuple_int, i_tuple_bool, i_tuple_tuple, i_tuple_list, i_tuple_str, i_list_int, i_list_bool, i_list_tuple, i_list_list, i_list_str, i_dict_int, i_dict_bool, i_dict_tuple, i_dict_list, i_dict_str, up_same, g_02, g_02', g_01, g_11, at_0, at_1, ix_0, ix_1, Option.some.injEq, HQ.lst.injEq, exists_eq_left', exists_eq_left, exists_and_left, exists_eq', exists_eq, decide_eq_true_eq, if_true, if_false, ite_true, ite_false, Bool.false_eq_true, reduceIte, reduceCtorEq, Bool.not_true, Bool.not_false, Nat.zero_add, Nat.reduceAdd, Nat.reduceSub, Nat.reduceLeDiff, Nat.reduceLT, Int.reduceLT, Int.reduceLE, Int.reduceEq, Int.reduceNe, Nat.reduceEqDiff, Int.reduceToNat, Int.reducePow, Int.reduceMul, Int.reduceAdd, Int.reduceSub, Int.reduceNeg, and_true, true_and, decide_true, decide_false]
    exact hN _ _ ⟨_, _, _, _, _, _, rfl⟩

end K07
namespace K07
open PySem PySem.Spec PyProof.Rows L2 Y

def topS (i : Nat) : Stmt := PySem.Challenge.pw_maypoint_k07_letters_as_octets.main.body.getD i (.Pass ⟨0, 0, 0, 0⟩)

abbrev s_law_edges : Stmt := topS 20
theorem sc_law_edges : FnScope ["found", "turn"] [] (defScope s_law_edges) := ⟨rfl, rfl, rfl, by decide +kernel, rfl, by decide +kernel, by decide +kernel⟩

abbrev s_law_box : Stmt := topS 10
theorem sc_law_box : FnScope ["script", "k", "cell", "great"] ["script", "k"] (defScope s_law_box) := ⟨rfl, rfl, rfl, by decide +kernel, rfl, by decide +kernel, by decide +kernel⟩

abbrev s_law_same : Stmt := topS 19
theorem sc_law_same : FnScope ["told", "due", "is_kind", "one", "other"] ["told", "due"] (defScope s_law_same) := ⟨rfl, rfl, rfl, by decide +kernel, rfl, by decide +kernel, by decide +kernel⟩

abbrev s_law_take : Stmt := topS 11
theorem sc_law_take : FnScope ["box", "many", "raw", "digit"] ["box", "many"] (defScope s_law_take) := ⟨rfl, rfl, rfl, by decide +kernel, rfl, by decide +kernel, by decide +kernel⟩

abbrev s_law_pick : Stmt := topS 12
theorem sc_law_pick : FnScope ["box", "some"] ["box", "some"] (defScope s_law_pick) := ⟨rfl, rfl, rfl, by decide +kernel, rfl, by decide +kernel, by decide +kernel⟩

abbrev s_law_signs : Stmt := topS 15
theorem sc_law_signs : FnScope ["box", "many", "turn"] ["box", "many"] (defScope s_law_signs) := ⟨rfl, rfl, rfl, by decide +kernel, rfl, by decide +kernel, by decide +kernel⟩

abbrev s_law_entry : Stmt := topS 13
theorem sc_law_entry : FnScope ["box", "way", "edge"] ["box"] (defScope s_law_entry) := ⟨rfl, rfl, rfl, by decide +kernel, rfl, by decide +kernel, by decide +kernel⟩

abbrev s_law_figure : Stmt := topS 14
theorem sc_law_figure : FnScope ["box", "many", "cells", "turn"] ["box"] (defScope s_law_figure) := ⟨rfl, rfl, rfl, by decide +kernel, rfl, by decide +kernel, by decide +kernel⟩

abbrev s_law_letter : Stmt := topS 16
theorem sc_law_letter : FnScope ["box", "kind", "serial", "stretch", "many", "turn"] ["box"] (defScope s_law_letter) := ⟨rfl, rfl, rfl, by decide +kernel, rfl, by decide +kernel, by decide +kernel⟩

abbrev s_groups_of : Stmt := topS 4
theorem sc_groups_of : FnScope ["whole", "octets"] ["whole"] (defScope s_groups_of) := ⟨rfl, rfl, rfl, by decide +kernel, rfl, by decide +kernel, by decide +kernel⟩

abbrev s_stretch_octet : Stmt := topS 5
theorem sc_stretch_octet : FnScope ["stretch"] ["stretch"] (defScope s_stretch_octet) := ⟨rfl, rfl, rfl, by decide +kernel, rfl, by decide +kernel, by decide +kernel⟩

abbrev s_number_octets : Stmt := topS 6
theorem sc_number_octets : FnScope ["number", "octets", "entry"] ["number"] (defScope s_number_octets) := ⟨rfl, rfl, rfl, by decide +kernel, rfl, by decide +kernel, by decide +kernel⟩

abbrev s_encode_letter : Stmt := topS 7
theorem sc_encode_letter : FnScope ["letter", "kind", "octets", "body"] ["letter"] (defScope s_encode_letter) := ⟨rfl, rfl, rfl, by decide +kernel, rfl, by decide +kernel, by decide +kernel⟩

abbrev s_encode_stream : Stmt := topS 8
theorem sc_encode_stream : FnScope ["letters", "octets", "letter"] ["letters"] (defScope s_encode_stream) := ⟨rfl, rfl, rfl, by decide +kernel, rfl, by decide +kernel, by decide +kernel⟩

abbrev s_law_groups : Stmt := topS 17
theorem sc_law_groups : FnScope ["worth", "found", "turn"] ["worth"] (defScope s_law_groups) := ⟨rfl, rfl, rfl, by decide +kernel, rfl, by decide +kernel, by decide +kernel⟩

abbrev s_law_form : Stmt := topS 18
theorem sc_law_form : FnScope ["letter", "place", "sign", "found", "spot", "one"] ["letter"] (defScope s_law_form) := ⟨rfl, rfl, rfl, by decide +kernel, rfl, by decide +kernel, by decide +kernel⟩

abbrev s_law_joined : Stmt := topS 21
theorem sc_law_joined : FnScope ["letters", "found", "letter"] ["letters"] (defScope s_law_joined) := ⟨rfl, rfl, rfl, by decide +kernel, rfl, by decide +kernel, by decide +kernel⟩

abbrev s_law : Stmt := topS 22
theorem sc_law : FnScope ["script", "letter", "k", "box", "letters", "back", "turn"] ["script"] (defScope s_law) := ⟨rfl, rfl, rfl, by decide +kernel, rfl, by decide +kernel, by decide +kernel⟩

structure Df (K : PySem.W.Frag) (mg : Str → Option Value) (x : Str) (st : Stmt) (f : Addr) (fd : FuncData) (ps : List Str) : Prop where
  fn : Fun K x x st f fd
  g : mg x = some (.ref f)
  b : Binds K fd ps []

theorem df_mk {K : PySem.W.Frag} {h : Heap} {mg : Str → Option Value} {x : Str} {st : Stmt} {f : Addr} {oc : Value} {od an : Option Addr} {osl : Array (Option Value)} {kV doc pm cdv ct : Value} {ps : List Str} (X : K.In h) (G : h.Ns mainGlobals mg) (a : PySem.W.nsIn K mainGlobals x = some (some (.ref f)))
  (l : K.lookup f = some ⟨oc, od, .func (PySem.W.fnOf x x (defArgs st) (defBody st) (defScope st) .none kV doc pm an cdv ct), osl⟩) (c : PySem.W.codeIn K cdv x = true) (k : PySem.W.keepIn K (.ref f) = true)
  (hb : ∀ (kV doc pm : Value) (an : Option Addr) (cdv ct : Value) (us : List Value), us.length = ps.length → bindArgs (PySem.W.fnOf x x (defArgs st) (defBody st) (defScope st) .none kV doc pm an cdv ct) ⟨us, []⟩ = pure (ps.zip us)) :
  Df K mg x st f (PySem.W.fnOf x x (defArgs st) (defBody st) (defScope st) .none kV doc pm an cdv ct) ps :=
  ⟨fun_mk l c k, PySem.W.mg_of X G a, (fun_mk l c k).binds hb⟩

structure Tx (K : PySem.W.Frag) (mg : Str → Option Value) where
  f_law_edges : Addr
  fd_law_edges : FuncData
  d_law_edges : Df K mg "_law_edges" s_law_edges f_law_edges fd_law_edges []
  f_law_box : Addr
  fd_law_box : FuncData
  d_law_box : Df K mg "_law_box" s_law_box f_law_box fd_law_box ["script", "k"]
  f_law_same : Addr
  fd_law_same : FuncData
  d_law_same : Df K mg "_law_same" s_law_same f_law_same fd_law_same ["told", "due"]
  f_law_take : Addr
  fd_law_take : FuncData
  d_law_take : Df K mg "_law_take" s_law_take f_law_take fd_law_take ["box", "many"]
  f_law_pick : Addr
  fd_law_pick : FuncData
  d_law_pick : Df K mg "_law_pick" s_law_pick f_law_pick fd_law_pick ["box", "some"]
  f_law_signs : Addr
  fd_law_signs : FuncData
  d_law_signs : Df K mg "_law_signs" s_law_signs f_law_signs fd_law_signs ["box", "many"]
  f_law_entry : Addr
  fd_law_entry : FuncData
  d_law_entry : Df K mg "_law_entry" s_law_entry f_law_entry fd_law_entry ["box"]
  f_law_figure : Addr
  fd_law_figure : FuncData
  d_law_figure : Df K mg "_law_figure" s_law_figure f_law_figure fd_law_figure ["box"]
  f_law_letter : Addr
  fd_law_letter : FuncData
  d_law_letter : Df K mg "_law_letter" s_law_letter f_law_letter fd_law_letter ["box"]
  f_groups_of : Addr
  fd_groups_of : FuncData
  d_groups_of : Df K mg "groups_of" s_groups_of f_groups_of fd_groups_of ["whole"]
  f_stretch_octet : Addr
  fd_stretch_octet : FuncData
  d_stretch_octet : Df K mg "stretch_octet" s_stretch_octet f_stretch_octet fd_stretch_octet ["stretch"]
  f_number_octets : Addr
  fd_number_octets : FuncData
  d_number_octets : Df K mg "number_octets" s_number_octets f_number_octets fd_number_octets ["number"]
  f_encode_letter : Addr
  fd_encode_letter : FuncData
  d_encode_letter : Df K mg "encode_letter" s_encode_letter f_encode_letter fd_encode_letter ["letter"]
  f_encode_stream : Addr
  fd_encode_stream : FuncData
  d_encode_stream : Df K mg "encode_stream" s_encode_stream f_encode_stream fd_encode_stream ["letters"]
  f_law_groups : Addr
  fd_law_groups : FuncData
  d_law_groups : Df K mg "_law_groups" s_law_groups f_law_groups fd_law_groups ["worth"]
  f_law_form : Addr
  fd_law_form : FuncData
  d_law_form : Df K mg "_law_form" s_law_form f_law_form fd_law_form ["letter"]
  f_law_joined : Addr
  fd_law_joined : FuncData
  d_law_joined : Df K mg "_law_joined" s_law_joined f_law_joined fd_law_joined ["letters"]
  f_law : Addr
  fd_law : FuncData
  d_law : Df K mg "law" s_law f_law fd_law ["script"]
  m_abs : mg "abs" = none
  m_bool : mg "bool" = none
  m_int : mg "int" = none
  m_isinstance : mg "isinstance" = none
  m_len : mg "len" = none
  m_list : mg "list" = none
  m_max : mg "max" = none
  m_min : mg "min" = none
  m_range : mg "range" = none
  m_str : mg "str" = none
  m_tuple : mg "tuple" = none
  m_zip : mg "zip" = none
  c_ACK : ∃ t, mg "ACK" = some (.int 1 t)
  c_MAIL : ∃ t, mg "MAIL" = some (.int 2 t)
  c_REPORT : ∃ t, mg "REPORT" = some (.int 0 t)
  kb_encode_letter_0_letter : KBn' K fd_encode_letter ["letter"] ["letter"] 0 1 [0]
  kb_encode_stream_0_letters : KBn' K fd_encode_stream ["letters"] ["letters"] 0 1 [0]

section
variable {P : Program} {w : World} {K : PySem.W.Frag} {mg : Str → Option Value} {base : Heap}

theorem ok_law_edges (T : Tx K mg) : FnOk P w K mg base CX0 1 T.f_law_edges T.fd_law_edges [] (dn K sp_law_edges) :=
  fn_ok T.d_law_edges.fn sc_law_edges ln_law_edges (fun cdv A outer s H E hr => 
 (eb_cons (es_set 0 sc_law_edges.nd (ev_lst (ea_cons (ev_tup (ea_cons ev_str (ea_cons ev_str (ea_cons ev_int ea_nil)))) (ea_cons (ev_tup (ea_cons ev_str (ea_cons ev_str (ea_cons ev_int ea_nil)))) (ea_cons (ev_tup (ea_cons ev_str (ea_cons ev_str (ea_cons ev_int ea_nil)))) (ea_cons (ev_tup (ea_cons ev_str (ea_cons ev_str (ea_cons ev_int ea_nil)))) (ea_cons (ev_tup (ea_cons ev_str (ea_cons ev_str (ea_cons ev_int ea_nil)))) ea_nil)))))))
 (eb_cons (es_expr (ev_mt PySem.F.plainAttrs_list PySem.F.slot_list_extend PySem.F.type_list_extend (.inl rfl) mt_ext2 lm_ext2 (ev_var 0) (ea_cons (ev_lst (ea_cons (ev_tup (ea_cons ev_str (ea_cons ev_str (ea_cons (ev_tup ea_nil) ea_nil)))) (ea_cons (ev_tup (ea_cons ev_str (ea_cons ev_str (ea_cons (ev_cT call_tuple_of lc_tup T.m_tuple (ea_cons (ev_lc 1 rfl sc_law_edges.nd (ei_rg1 T.m_range (ea_cons ev_int ea_nil)) (blkOk_by (N := ["found", "turn"]) (sc := defScope s_law_edges) (by decide +kernel)) (fun _ _ _ _ _ => pg_name (i := 1) sc_law_edges.nd rfl (Or.inl rfl)) (fun _ _ _ _ _ => ep_nil) (fun _ _ _ _ _ => ev_int)) ea_nil)) ea_nil)))) (ea_cons (ev_tup (ea_cons ev_str (ea_cons ev_str (ea_cons ev_int (ea_cons ev_non ea_nil))))) ea_nil)))) ea_nil)))
 (eb_cons (es_expr (ev_mt PySem.F.plainAttrs_list PySem.F.slot_list_extend PySem.F.type_list_extend (.inl rfl) mt_ext2 lm_ext2 (ev_var 0) (ea_cons (ev_lst (ea_cons (ev_tup (ea_cons ev_str (ea_cons ev_str (ea_cons (ev_bin op_pow lf_pow ev_int ev_int) (ea_cons (ev_tup (ea_cons ev_int (ea_cons ev_int ea_nil))) ea_nil))))) (ea_cons (ev_tup (ea_cons ev_str (ea_cons ev_str (ea_cons ev_int (ea_cons (ev_tup (ea_cons (ev_bin op_pow lf_pow ev_int ev_int) (ea_cons (ev_bin op_sub lf_sub ev_int (ev_bin op_pow lf_pow ev_int ev_int)) (ea_cons (ev_bin op_pow lf_pow ev_int ev_int) (ea_cons ev_int ea_nil))))) ea_nil))))) ea_nil))) ea_nil)))
 (eb_cons (es_expr (ev_mt PySem.F.plainAttrs_list PySem.F.slot_list_append PySem.F.type_list_append (.inl rfl) mt_append lm_app (ev_var 0) (ea_cons (ev_tup (ea_cons ev_str (ea_cons ev_str (ea_cons ev_int (ea_cons (ev_cT call_tuple_of lc_tup T.m_tuple (ea_cons (ev_bin op_addU lf_add (ev_bin op_addU lf_add (ev_lst (ea_cons ev_int ea_nil)) (ev_lst (ea_cons ev_int (ea_cons ev_int (ea_cons (ev_bin op_sub lf_sub ev_int ev_int) (ea_cons (ev_bin op_sub lf_sub ev_int ev_int) (ea_cons ev_int (ea_cons ev_int (ea_cons (ev_bin op_sub lf_sub ev_int ev_int) (ea_cons (ev_bin op_sub lf_sub ev_int ev_int) (ea_cons (ev_bin op_sub lf_sub ev_int ev_int) (ea_cons ev_int (ea_cons ev_int (ea_cons ev_int ea_nil)))))))))))))) (ev_lst (ea_cons ev_int ea_nil))) ea_nil)) ea_nil))))) ea_nil)))
 (eb_one (es_ret (ev_var 0)))))))) pu_law_edges nx_law_edges

theorem ok_law_box (T : Tx K mg) : FnOk P w K mg base CX0 1 T.f_law_box T.fd_law_box ["script", "k"] (dn K sp_law_box) :=
  fn_ok T.d_law_box.fn sc_law_box ln_law_box (fun cdv A outer s H E hr => 
 (eb_cons (es_set 2 sc_law_box.nd (ev_bin op_addU lf_add (ev_bin op_mul lf_mul ev_int (ev_var 1)) ev_int))
 (eb_cons (es_if (et_cmp (op_ltU hr.units0) lf_lt (ev_var 1) (ev_cB cr_len lc_len T.m_len (ea_cons (ev_var 0) ea_nil)))
 (eb_one (es_set 2 sc_law_box.nd (ev_cB call_abs lc_abs T.m_abs (ea_cons (ev_cT call_int1 lc_int T.m_int (ea_cons (ev_ix (ev_var 0) (ev_var 1)) ea_nil)) ea_nil))))
 (eb_one (es_if (et_cmp (op_gtU hr.units0) lf_gt2 (ev_cB cr_len lc_len T.m_len (ea_cons (ev_var 0) ea_nil)) ev_int)
 (eb_one (es_set 2 sc_law_box.nd (ev_bin op_addU lf_add (ev_var 2) (ev_bin op_mul lf_mul (ev_bin op_mod lf_mod (ev_cT call_int1 lc_int T.m_int (ea_cons (ev_cB call_abs lc_abs T.m_abs (ea_cons (ev_cT call_int1 lc_int T.m_int (ea_cons (ev_ix (ev_var 0) (ev_bin op_mod lf_mod (ev_cT call_int1 lc_int T.m_int (ea_cons (ev_var 1) ea_nil)) (ev_cB cr_len lc_len T.m_len (ea_cons (ev_var 0) ea_nil)))) ea_nil)) ea_nil)) ea_nil)) ev_int) ev_int))))
 eb_nil)))
 (eb_cons (es_set 3 sc_law_box.nd (ev_if (et_cmp op_ge lf_ge (ev_var 2) (ev_bin op_pow lf_pow ev_int ev_int)) (ev_var 2) ev_int))
 (eb_one (es_ret (ev_lst (ea_cons (ev_var 3) (ea_cons (ev_bin op_addU lf_add (ev_bin op_mod lf_mod (ev_cT call_int1 lc_int T.m_int (ea_cons (ev_bin op_addU lf_add (ev_bin op_mul lf_mul (ev_bin op_mod lf_mod (ev_cT call_int1 lc_int T.m_int (ea_cons (ev_var 2) ea_nil)) ev_int) ev_int) (ev_bin op_mul lf_mul ev_int (ev_var 1))) ea_nil)) ev_int) ev_int) ea_nil))))))))) pu_law_box nx_law_box

theorem ok_law_same (T : Tx K mg) : ∀ n, FnOk P w K mg base CX0 (0 + n) T.f_law_same T.fd_law_same ["told", "due"] (dn K (sp_law_same n))
  | 0 => ⟨fun vs H Q E h => by obtain ⟨ds, S, Q', E', _, _, h, _⟩ := h; exact (zr_law_same _ _ _ _ h).elim, fun _ _ _ _ _ _ _ _ _ _ _ _ _ h => by obtain ⟨ds, S, Q', E', _, _, h, _⟩ := h; exact (zr_law_same _ _ _ _ h).elim⟩
  | n + 1 => by
    have ih := ok_law_same T n
    exact fn_ok T.d_law_same.fn sc_law_same (fun ds S Q E h => ln_law_same _ ds S Q E h) (fun cdv A outer s H E hr => 
 (eb_cons (es_if (et_ew (ew_or (et_val (ev_cB call_isi2 lc_isi2 T.m_isinstance (ea_cons (ev_var 1) (ea_cons (ev_ty T.m_tuple) ea_nil)))) (ew_or1 (et_val (ev_cB call_isi2 lc_isi2 T.m_isinstance (ea_cons (ev_var 1) (ea_cons (ev_ty T.m_list) ea_nil)))))))
 (eb_cons (es_set 2 sc_law_same.nd (ev_if (et_val (ev_cB call_isi2 lc_isi2 T.m_isinstance (ea_cons (ev_var 1) (ea_cons (ev_ty T.m_tuple) ea_nil)))) (ev_cB call_isi2 lc_isi2 T.m_isinstance (ea_cons (ev_var 0) (ea_cons (ev_ty T.m_tuple) ea_nil))) (ev_cB call_isi2 lc_isi2 T.m_isinstance (ea_cons (ev_var 0) (ea_cons (ev_ty T.m_list) ea_nil)))))
 (eb_cons (es_if (et_ew (ew_or (et_not (et_tru (ev_var 2))) (ew_or1 (et_cmp (op_neU hr.units) lf_ne (ev_cB cr_len lc_len T.m_len (ea_cons (ev_var 0) ea_nil)) (ev_cB cr_len lc_len T.m_len (ea_cons (ev_var 1) ea_nil))))))
 (eb_one (es_ret ev_bl))
 eb_nil)
 (eb_cons (es_for PassesOwn.never rfl (ei_zip T.m_zip (ea_cons (ev_var 0) (ea_cons (ev_var 1) ea_nil))) (eg_tp rfl (egs_cons (eg_nm 3 sc_law_same.nd) (egs_cons (eg_nm 4 sc_law_same.nd) egs_nil)))
 (eb_one (es_if (et_not (et_val (ev_call ih (hr.mono (Nat.le_refl _)) T.d_law_same.g T.d_law_same.fn.kp T.d_law_same.b (ea_cons (ev_var 3) (ea_cons (ev_var 4) ea_nil)))))
 (eb_one (es_ret ev_bl))
 eb_nil)))
 (eb_one (es_ret ev_bl)))))
 eb_nil)
 (eb_cons (es_if (et_cmp op_isU lf_is (ev_var 1) ev_non)
 (eb_one (es_ret (ev_cmp op_isU lf_is (ev_var 0) ev_non)))
 eb_nil)
 (eb_cons (es_if (et_ew (ew_or (et_cmp op_isU lf_is (ev_var 1) ev_bl) (ew_or1 (et_cmp op_isU lf_is (ev_var 1) ev_bl))))
 (eb_one (es_ret (ev_and (ev_cB call_isi2 lc_isi2 T.m_isinstance (ea_cons (ev_var 0) (ea_cons (ev_ty T.m_bool) ea_nil))) (ev_one (ev_cmp (op_eqU hr.units) lf_eq (ev_var 0) (ev_var 1))))))
 eb_nil)
 (eb_cons (es_if (et_val (ev_cB call_isi2 lc_isi2 T.m_isinstance (ea_cons (ev_var 1) (ea_cons (ev_ty T.m_int) ea_nil))))
 (eb_one (es_ret (ev_and (ev_cB call_isi2 lc_isi2 T.m_isinstance (ea_cons (ev_var 0) (ea_cons (ev_ty T.m_int) ea_nil))) (ev_and (ev_not (ev_cB call_isi2 lc_isi2 T.m_isinstance (ea_cons (ev_var 0) (ea_cons (ev_ty T.m_bool) ea_nil)))) (ev_one (ev_cmp (op_eqU hr.units) lf_eq (ev_var 0) (ev_var 1)))))))
 eb_nil)
 (eb_one (es_ret (ev_and (ev_cB call_isi2 lc_isi2 T.m_isinstance (ea_cons (ev_var 0) (ea_cons (ev_ty T.m_str) ea_nil))) (ev_and (ev_cB call_isi2 lc_isi2 T.m_isinstance (ea_cons (ev_var 1) (ea_cons (ev_ty T.m_str) ea_nil))) (ev_one (ev_cmp (op_eqU hr.units) lf_eq (ev_var 0) (ev_var 1)))))))))))) (pu_law_same n) (nx_law_same (n + 1))

theorem ok_law_take (T : Tx K mg) : FnOk P w K mg base CX0 1 T.f_law_take T.fd_law_take ["box", "many"] (dn K sp_law_take) :=
  fn_ok T.d_law_take.fn sc_law_take ln_law_take (fun cdv A outer s H E hr => 
 (eb_cons (es_if (et_cmp (op_gtU hr.units0) lf_gt2 (ev_ix (ev_var 0) ev_int) ev_int)
 (eb_cons (es_set 3 sc_law_take.nd (ev_bin op_mod lf_mod (ev_cT call_int1 lc_int T.m_int (ea_cons (ev_ix (ev_var 0) ev_int) ea_nil)) (ev_var 1)))
 (eb_cons (es_asg (ev_bin op_fdivW lf_fdiv (ev_ix (ev_var 0) ev_int) (ev_var 1)) (eg_sb (ev_var 0) ev_int))
 (eb_one (es_ret (ev_var 3)))))
 eb_nil)
 (eb_cons (es_set 2 sc_law_take.nd (ev_bin op_mod lf_mod (ev_cT call_int1 lc_int T.m_int (ea_cons (ev_bin op_addU lf_add (ev_bin op_mul lf_mul (ev_ix (ev_var 0) ev_int) ev_int) ev_int) ea_nil)) ev_int))
 (eb_cons (es_asg (ev_bin op_addU lf_add (ev_bin op_mod lf_mod (ev_cT call_int1 lc_int T.m_int (ea_cons (ev_bin op_addU lf_add (ev_bin op_mul lf_mul (ev_var 2) ev_int) ev_int) ea_nil)) ev_int) ev_int) (eg_sb (ev_var 0) ev_int))
 (eb_one (es_ret (ev_bin op_mod lf_mod (ev_cT call_int1 lc_int T.m_int (ea_cons (ev_bin op_fdivW lf_fdiv (ev_bin op_addU lf_add (ev_bin op_mul lf_mul (ev_var 2) ev_int) (ev_ix (ev_var 0) ev_int)) ev_int) ea_nil)) (ev_var 1)))))))) pu_law_take nx_law_take

theorem ok_law_pick (T : Tx K mg) : FnOk P w K mg base CX0 2 T.f_law_pick T.fd_law_pick ["box", "some"] (dn K sp_law_pick) :=
  fn_ok T.d_law_pick.fn sc_law_pick ln_law_pick (fun cdv A outer s H E hr => 
 (eb_one (es_ret (ev_ix (ev_var 1) (ev_call (ok_law_take T) (hr.mono (by decide)) T.d_law_take.g T.d_law_take.fn.kp T.d_law_take.b (ea_cons (ev_var 0) (ea_cons (ev_cB cr_len lc_len T.m_len (ea_cons (ev_var 1) ea_nil)) ea_nil))))))) pu_law_pick nx_law_pick

theorem ok_law_signs (T : Tx K mg) : FnOk P w K mg base CX0 3 T.f_law_signs T.fd_law_signs ["box", "many"] (dn K sp_law_signs) :=
  fn_ok T.d_law_signs.fn sc_law_signs ln_law_signs (fun cdv A outer s H E hr => 
 (eb_one (es_ret (ev_mt PySem.F.plainAttrs_str PySem.F.slot_str_join PySem.F.type_str_join (.inr (.inl rfl)) mt_join lm_join ev_str (ea_cons (ev_lc 2 rfl sc_law_signs.nd (ei_rg1 T.m_range (ea_cons (ev_var 1) ea_nil)) (blkOk_by (N := ["box", "many", "turn"]) (sc := defScope s_law_signs) (by decide +kernel)) (fun _ _ _ _ _ => pg_name (i := 2) sc_law_signs.nd rfl (Or.inl rfl)) (fun _ _ _ _ _ => ep_nil) (fun _ _ _ _ _ => (ev_call (ok_law_pick T) (hr.mono (by decide)) T.d_law_pick.g T.d_law_pick.fn.kp T.d_law_pick.b (ea_cons (ev_var 0) (ea_cons (ev_lst (ea_cons ev_str (ea_cons ev_str ea_nil))) ea_nil))))) ea_nil))))) pu_law_signs nx_law_signs

theorem ok_law_entry (T : Tx K mg) : FnOk P w K mg base CX0 3 T.f_law_entry T.fd_law_entry ["box"] (dn K sp_law_entry) :=
  fn_ok T.d_law_entry.fn sc_law_entry ln_law_entry (fun cdv A outer s H E hr => 
 (eb_cons (es_set 1 sc_law_entry.nd (ev_call (ok_law_take T) (hr.mono (by decide)) T.d_law_take.g T.d_law_take.fn.kp T.d_law_take.b (ea_cons (ev_var 0) (ea_cons ev_int ea_nil))))
 (eb_cons (es_if (et_cmp (op_ltU hr.units0) lf_lt (ev_var 1) ev_int)
 (eb_one (es_ret (ev_bin op_sub lf_sub (ev_call (ok_law_take T) (hr.mono (by decide)) T.d_law_take.g T.d_law_take.fn.kp T.d_law_take.b (ea_cons (ev_var 0) (ea_cons ev_int ea_nil))) ev_int)))
 eb_nil)
 (eb_cons (es_if (et_cmp (op_ltU hr.units0) lf_lt (ev_var 1) ev_int)
 (eb_cons (es_set 2 sc_law_entry.nd (ev_call (ok_law_pick T) (hr.mono (by decide)) T.d_law_pick.g T.d_law_pick.fn.kp T.d_law_pick.b (ea_cons (ev_var 0) (ea_cons (ev_lst (ea_cons ev_int (ea_cons ev_int (ea_cons ev_int (ea_cons ev_int (ea_cons ev_int (ea_cons ev_int (ea_cons ev_int (ea_cons ev_int (ea_cons ev_int (ea_cons ev_int (ea_cons (ev_bin op_pow lf_pow ev_int ev_int) ea_nil)))))))))))) ea_nil))))
 (eb_one (es_ret (ev_call (ok_law_pick T) (hr.mono (by decide)) T.d_law_pick.g T.d_law_pick.fn.kp T.d_law_pick.b (ea_cons (ev_var 0) (ea_cons (ev_lst (ea_cons (ev_var 2) (ea_cons (ev_bin op_sub lf_sub ev_int (ev_var 2)) (ea_cons (ev_bin op_sub lf_sub (ev_bin op_sub lf_sub ev_int (ev_var 2)) ev_int) (ea_cons (ev_bin op_addU lf_add (ev_var 2) ev_int) ea_nil))))) ea_nil))))))
 eb_nil)
 (eb_one (es_ret (ev_bin op_sub lf_sub (ev_call (ok_law_take T) (hr.mono (by decide)) T.d_law_take.g T.d_law_take.fn.kp T.d_law_take.b (ea_cons (ev_var 0) (ea_cons (ev_bin op_addU lf_add (ev_bin op_mul lf_mul ev_int (ev_bin op_pow lf_pow ev_int ev_int)) ev_int) ea_nil))) (ev_bin op_pow lf_pow ev_int ev_int)))))))) pu_law_entry nx_law_entry

theorem ok_law_figure (T : Tx K mg) : FnOk P w K mg base CX0 4 T.f_law_figure T.fd_law_figure ["box"] (dn K sp_law_figure) :=
  fn_ok T.d_law_figure.fn sc_law_figure ln_law_figure (fun cdv A outer s H E hr => 
 (eb_cons (es_set 1 sc_law_figure.nd (ev_call (ok_law_pick T) (hr.mono (by decide)) T.d_law_pick.g T.d_law_pick.fn.kp T.d_law_pick.b (ea_cons (ev_var 0) (ea_cons (ev_lst (ea_cons ev_int (ea_cons ev_int (ea_cons ev_int (ea_cons ev_int (ea_cons ev_int (ea_cons ev_int (ea_cons ev_int (ea_cons ev_int (ea_cons ev_int (ea_cons ev_int ea_nil))))))))))) ea_nil))))
 (eb_cons (es_if (et_cmp (op_eqU hr.units) lf_eq (ev_var 1) ev_int)
 (eb_one (es_ret ev_non))
 eb_nil)
 (eb_cons (es_setLc 2 3 rfl sc_law_figure.nd (ei_rg1 T.m_range (ea_cons (ev_var 1) ea_nil)) (blkOk_by (N := ["box", "many", "cells", "turn"]) (sc := defScope s_law_figure) (by decide +kernel)) (fun _ _ _ _ _ => pg_name (i := 3) sc_law_figure.nd rfl (Or.inl rfl)) (fun _ _ _ _ _ => ep_nil) (fun _ _ _ _ _ => (ev_call (ok_law_entry T) (hr.mono (by decide)) T.d_law_entry.g T.d_law_entry.fn.kp T.d_law_entry.b (ea_cons (ev_var 0) ea_nil))) (sw_true rfl rfl rfl (by decide +kernel)))
 (eb_cons (es_asg (ev_cB call_abs lc_abs T.m_abs (ea_cons (ev_ix (ev_var 2) ev_int) ea_nil)) (eg_sb (ev_var 2) ev_int))
 (eb_one (es_ret (ev_cT call_tuple_of lc_tup T.m_tuple (ea_cons (ev_bin op_addU lf_add (ev_var 2) (ev_lst (ea_cons (ev_call (ok_law_pick T) (hr.mono (by decide)) T.d_law_pick.g T.d_law_pick.fn.kp T.d_law_pick.b (ea_cons (ev_var 0) (ea_cons (ev_lst (ea_cons ev_int (ea_cons ev_int (ea_cons (ev_call (ok_law_take T) (hr.mono (by decide)) T.d_law_take.g T.d_law_take.fn.kp T.d_law_take.b (ea_cons (ev_var 0) (ea_cons ev_int ea_nil))) (ea_cons (ev_call (ok_law_take T) (hr.mono (by decide)) T.d_law_take.g T.d_law_take.fn.kp T.d_law_take.b (ea_cons (ev_var 0) (ea_cons ev_int ea_nil))) ea_nil))))) ea_nil))) ea_nil))) ea_nil))))))))) pu_law_figure nx_law_figure

theorem ok_law_letter (T : Tx K mg) : FnOk P w K mg base CX0 5 T.f_law_letter T.fd_law_letter ["box"] (dn K sp_law_letter) :=
  fn_ok T.d_law_letter.fn sc_law_letter ln_law_letter (fun cdv A outer s H E hr => 
 (eb_cons (es_set 1 sc_law_letter.nd (ev_call (ok_law_take T) (hr.mono (by decide)) T.d_law_take.g T.d_law_take.fn.kp T.d_law_take.b (ea_cons (ev_var 0) (ea_cons ev_int ea_nil))))
 (eb_cons (es_set 2 sc_law_letter.nd (ev_call (ok_law_pick T) (hr.mono (by decide)) T.d_law_pick.g T.d_law_pick.fn.kp T.d_law_pick.b (ea_cons (ev_var 0) (ea_cons (ev_lst (ea_cons ev_int (ea_cons ev_int (ea_cons ev_int (ea_cons ev_int (ea_cons ev_int (ea_cons ev_int (ea_cons ev_int (ea_cons ev_int (ea_cons (ev_bin op_pow lf_pow ev_int ev_int) (ea_cons (ev_bin op_addU lf_add ev_int (ev_call (ok_law_take T) (hr.mono (by decide)) T.d_law_take.g T.d_law_take.fn.kp T.d_law_take.b (ea_cons (ev_var 0) (ea_cons ev_int ea_nil)))) (ea_cons (ev_bin op_addU lf_add ev_int (ev_call (ok_law_take T) (hr.mono (by decide)) T.d_law_take.g T.d_law_take.fn.kp T.d_law_take.b (ea_cons (ev_var 0) (ea_cons (ev_bin op_pow lf_pow ev_int ev_int) ea_nil)))) ea_nil)))))))))))) ea_nil))))
 (eb_cons (es_set 3 sc_law_letter.nd (ev_call (ok_law_signs T) (hr.mono (by decide)) T.d_law_signs.g T.d_law_signs.fn.kp T.d_law_signs.b (ea_cons (ev_var 0) (ea_cons (ev_call (ok_law_pick T) (hr.mono (by decide)) T.d_law_pick.g T.d_law_pick.fn.kp T.d_law_pick.b (ea_cons (ev_var 0) (ea_cons (ev_lst (ea_cons ev_int (ea_cons ev_int (ea_cons ev_int (ea_cons ev_int (ea_cons ev_int (ea_cons ev_int (ea_cons ev_int (ea_cons ev_int ea_nil))))))))) ea_nil))) ea_nil))))
 (eb_cons (es_if (et_cmp (op_eqU hr.units) lf_eq (ev_var 1) ev_int)
 (eb_one (es_ret (ev_tup (ea_cons ev_str (ea_cons (ev_var 3) (ea_cons (ev_var 2) (ea_cons (ev_call (ok_law_figure T) (hr.mono (by decide)) T.d_law_figure.g T.d_law_figure.fn.kp T.d_law_figure.b (ea_cons (ev_var 0) ea_nil)) ea_nil)))))))
 eb_nil)
 (eb_cons (es_if (et_cmp (op_eqU hr.units) lf_eq (ev_var 1) ev_int)
 (eb_one (es_ret (ev_tup (ea_cons ev_str (ea_cons (ev_var 3) (ea_cons (ev_var 2) ea_nil))))))
 eb_nil)
 (eb_cons (es_set 4 sc_law_letter.nd (ev_call (ok_law_pick T) (hr.mono (by decide)) T.d_law_pick.g T.d_law_pick.fn.kp T.d_law_pick.b (ea_cons (ev_var 0) (ea_cons (ev_lst (ea_cons ev_int (ea_cons ev_int (ea_cons ev_int (ea_cons ev_int (ea_cons ev_int (ea_cons ev_int (ea_cons ev_int ea_nil)))))))) ea_nil))))
 (eb_one (es_ret (ev_tup (ea_cons ev_str (ea_cons (ev_call (ok_law_signs T) (hr.mono (by decide)) T.d_law_signs.g T.d_law_signs.fn.kp T.d_law_signs.b (ea_cons (ev_var 0) (ea_cons ev_int ea_nil))) (ea_cons (ev_cT call_tuple_of lc_tup T.m_tuple (ea_cons (ev_lc 5 rfl sc_law_letter.nd (ei_rg1 T.m_range (ea_cons (ev_var 4) ea_nil)) (blkOk_by (N := ["box", "kind", "serial", "stretch", "many", "turn"]) (sc := defScope s_law_letter) (by decide +kernel)) (fun _ _ _ _ _ => pg_name (i := 5) sc_law_letter.nd rfl (Or.inl rfl)) (fun _ _ _ _ _ => ep_nil) (fun _ _ _ _ _ => (ev_call (ok_law_pick T) (hr.mono (by decide)) T.d_law_pick.g T.d_law_pick.fn.kp T.d_law_pick.b (ea_cons (ev_var 0) (ea_cons (ev_lst (ea_cons ev_int (ea_cons ev_int (ea_cons ev_int (ea_cons (ev_call (ok_law_take T) (hr.mono (by decide)) T.d_law_take.g T.d_law_take.fn.kp T.d_law_take.b (ea_cons (ev_var 0) (ea_cons ev_int ea_nil))) ea_nil))))) ea_nil))))) ea_nil)) ea_nil))))))))))))) pu_law_letter nx_law_letter

theorem ok_groups_of (T : Tx K mg) : FnOk P w K mg base CX0 1 T.f_groups_of T.fd_groups_of ["whole"] (dn K sp_groups_of) :=
  fn_ok T.d_groups_of.fn sc_groups_of ln_groups_of (fun cdv A outer s H E hr => 
 (eb_cons (es_set 1 sc_groups_of.nd (ev_lst ea_nil))
 (eb_cons (es_while PassesOwn.never (et_cmp op_ge lf_ge (ev_var 0) ev_int)
 (eb_cons (es_expr (ev_mt PySem.F.plainAttrs_list PySem.F.slot_list_append PySem.F.type_list_append (.inl rfl) mt_append lm_app (ev_var 1) (ea_cons (ev_bin op_addU lf_add ev_int (ev_bin op_and lf_and (ev_var 0) ev_int)) ea_nil)))
 (eb_one (es_set 0 sc_groups_of.nd (ev_bin op_fdivW lf_fdiv (ev_var 0) ev_int)))))
 (eb_cons (es_expr (ev_mt PySem.F.plainAttrs_list PySem.F.slot_list_append PySem.F.type_list_append (.inl rfl) mt_append lm_app (ev_var 1) (ea_cons (ev_var 0) ea_nil)))
 (eb_one (es_ret (ev_var 1))))))) pu_groups_of nx_groups_of

theorem ok_stretch_octet (T : Tx K mg) : FnOk P w K mg base CX0 1 T.f_stretch_octet T.fd_stretch_octet ["stretch"] (dn K sp_stretch_octet) :=
  fn_ok T.d_stretch_octet.fn sc_stretch_octet ln_stretch_octet (fun cdv A outer s H E hr => 
 (eb_one (es_ret (ev_cT call_int2b lc_int2 T.m_int (ea_cons (ev_bin op_addU lf_add ev_str (ev_var 0)) (ea_cons ev_int ea_nil)))))) pu_stretch_octet nx_stretch_octet

theorem ok_number_octets (T : Tx K mg) : FnOk P w K mg base CX0 2 T.f_number_octets T.fd_number_octets ["number"] (dn K sp_number_octets) :=
  fn_ok T.d_number_octets.fn sc_number_octets ln_number_octets (fun cdv A outer s H E hr => 
 (eb_cons (es_if (et_cmp op_isU lf_is (ev_var 0) ev_non)
 (eb_one (es_ret (ev_lst (ea_cons ev_int ea_nil))))
 eb_nil)
 (eb_cons (es_set 1 sc_number_octets.nd (ev_bin op_addU lf_add (ev_lst (ea_cons (ev_cB cr_len lc_len T.m_len (ea_cons (ev_var 0) ea_nil)) ea_nil)) (ev_call (ok_groups_of T) (hr.mono (by decide)) T.d_groups_of.g T.d_groups_of.fn.kp T.d_groups_of.b (ea_cons (ev_ix (ev_var 0) ev_int) ea_nil))))
 (eb_cons (es_for PassesOwn.never rfl (ei_seq (ev_sl (ev_var 0) (eo_some ev_int) eo_none)) (eg_nm 2 sc_number_octets.nd)
 (eb_one (es_expr (ev_mt PySem.F.plainAttrs_list PySem.F.slot_list_extend PySem.F.type_list_extend (.inl rfl) mt_ext2 lm_ext2 (ev_var 1) (ea_cons (ev_call (ok_groups_of T) (hr.mono (by decide)) T.d_groups_of.g T.d_groups_of.fn.kp T.d_groups_of.b (ea_cons (ev_if (et_cmp op_ge lf_ge (ev_var 2) ev_int) (ev_bin op_mul lf_mul ev_int (ev_var 2)) (ev_bin op_sub lf_sub (ev_bin op_mul lf_mul (ev_neg ev_int) (ev_var 2)) ev_int)) ea_nil)) ea_nil)))))
 (eb_one (es_ret (ev_var 1))))))) pu_number_octets nx_number_octets

theorem ok_encode_letter (T : Tx K mg) : FnOk P w K mg base CX0 3 T.f_encode_letter T.fd_encode_letter ["letter"] (dn K sp_encode_letter) :=
  fn_ok T.d_encode_letter.fn sc_encode_letter ln_encode_letter (fun cdv A outer s H E hr => 
 (eb_cons (es_set 1 sc_encode_letter.nd (ev_ix (ev_var 0) ev_int))
 (eb_cons (es_if (et_cmp (op_eqU hr.units) lf_eq (ev_var 1) ev_str)
 (eb_cons (es_set 3 sc_encode_letter.nd (ev_ix (ev_var 0) ev_int))
 (eb_one (es_ret (ev_bin op_addU lf_add (ev_tup (ea_cons (ev_glob (v := .int 2) (d := .int 2) (by rfl) T.c_MAIL.choose_spec ⟨_, rfl⟩ (fun _ => .int _)) (ea_cons (ev_call (ok_stretch_octet T) (hr.mono (by decide)) T.d_stretch_octet.g T.d_stretch_octet.fn.kp T.d_stretch_octet.b (ea_cons (ev_ix (ev_var 0) ev_int) ea_nil)) (ea_cons (ev_cB cr_len lc_len T.m_len (ea_cons (ev_var 3) ea_nil)) ea_nil)))) (ev_var 3)))))
 eb_nil)
 (eb_cons (es_set 2 sc_encode_letter.nd (ev_bin op_addU lf_add (ev_lst (ea_cons (ev_call (ok_stretch_octet T) (hr.mono (by decide)) T.d_stretch_octet.g T.d_stretch_octet.fn.kp T.d_stretch_octet.b (ea_cons (ev_ix (ev_var 0) ev_int) ea_nil)) ea_nil)) (ev_call (ok_groups_of T) (hr.mono (by decide)) T.d_groups_of.g T.d_groups_of.fn.kp T.d_groups_of.b (ea_cons (ev_ix (ev_var 0) ev_int) ea_nil))))
 (eb_cons (es_if (et_cmp (op_eqU hr.units) lf_eq (ev_var 1) ev_str)
 (eb_one (es_ret (ev_bin op_addU lf_add (ev_tup (ea_cons (ev_glob (v := .int 1) (d := .int 1) (by rfl) T.c_ACK.choose_spec ⟨_, rfl⟩ (fun _ => .int _)) ea_nil)) (ev_cT call_tuple_of lc_tup T.m_tuple (ea_cons (ev_var 2) ea_nil)))))
 eb_nil)
 (eb_one (es_ret (ev_bin op_addU lf_add (ev_tup (ea_cons (ev_glob (v := .int 0) (d := .int 0) (by rfl) T.c_REPORT.choose_spec ⟨_, rfl⟩ (fun _ => .int _)) ea_nil)) (ev_cT call_tuple_of lc_tup T.m_tuple (ea_cons (ev_bin op_addU lf_add (ev_var 2) (ev_call (ok_number_octets T) (hr.mono (by decide)) T.d_number_octets.g T.d_number_octets.fn.kp T.d_number_octets.b (ea_cons (ev_ix (ev_var 0) ev_int) ea_nil))) ea_nil)))))))))) pu_encode_letter nx_encode_letter

theorem ok_encode_stream (T : Tx K mg) : FnOk P w K mg base CX0 4 T.f_encode_stream T.fd_encode_stream ["letters"] (dn K sp_encode_stream) :=
  fn_ok T.d_encode_stream.fn sc_encode_stream ln_encode_stream (fun cdv A outer s H E hr => 
 (eb_cons (es_set 1 sc_encode_stream.nd (ev_lst ea_nil))
 (eb_cons (es_for PassesOwn.never rfl (ei_seq (ev_var 0)) (eg_nm 2 sc_encode_stream.nd)
 (eb_one (es_expr (ev_mt PySem.F.plainAttrs_list PySem.F.slot_list_extend PySem.F.type_list_extend (.inl rfl) mt_ext2 lm_ext2 (ev_var 1) (ea_cons (ev_call (ok_encode_letter T) (hr.mono (by decide)) T.d_encode_letter.g T.d_encode_letter.fn.kp T.d_encode_letter.b (ea_cons (ev_var 2) ea_nil)) ea_nil)))))
 (eb_one (es_ret (ev_cT call_tuple_of lc_tup T.m_tuple (ea_cons (ev_var 1) ea_nil))))))) pu_encode_stream nx_encode_stream

theorem ok_law_groups (T : Tx K mg) : FnOk P w K mg base CX0 1 T.f_law_groups T.fd_law_groups ["worth"] (dn K sp_law_groups) :=
  fn_ok T.d_law_groups.fn sc_law_groups ln_law_groups (fun cdv A outer s H E hr => 
 (eb_cons (es_set 1 sc_law_groups.nd (ev_lst ea_nil))
 (eb_cons (es_for PassesOwn.never rfl (ei_rg1 T.m_range (ea_cons ev_int ea_nil)) (eg_nm 2 sc_law_groups.nd)
 (eb_cons (es_if (et_cmp (op_ltU hr.units0) lf_lt (ev_var 0) ev_int)
 (eb_one es_brk)
 eb_nil)
 (eb_cons (es_expr (ev_mt PySem.F.plainAttrs_list PySem.F.slot_list_append PySem.F.type_list_append (.inl rfl) mt_append lm_app (ev_var 1) (ea_cons (ev_bin op_addU lf_add (ev_bin op_mod lf_mod (ev_cT call_int1 lc_int T.m_int (ea_cons (ev_var 0) ea_nil)) ev_int) ev_int) ea_nil)))
 (eb_one (es_set 0 sc_law_groups.nd (ev_bin op_fdivW lf_fdiv (ev_var 0) ev_int))))))
 (eb_one (es_ret (ev_bin op_addU lf_add (ev_var 1) (ev_lst (ea_cons (ev_var 0) ea_nil)))))))) pu_law_groups nx_law_groups

theorem ok_law_form (T : Tx K mg) : FnOk P w K mg base CX0 2 T.f_law_form T.fd_law_form ["letter"] (dn K sp_law_form) :=
  fn_ok T.d_law_form.fn sc_law_form ln_law_form (fun cdv A outer s H E hr => 
 (eb_cons (es_set 1 sc_law_form.nd ev_int)
 (eb_cons (es_for PassesOwn.never rfl (ei_str (ev_ix (ev_var 0) ev_int)) (eg_nm 2 sc_law_form.nd)
 (eb_one (es_set 1 sc_law_form.nd (ev_bin op_addU lf_add (ev_bin op_mul lf_mul (ev_var 1) ev_int) (ev_mt PySem.F.plainAttrs_list PySem.F.slot_list_index PySem.F.type_list_index (.inl rfl) mt_index lm_ixo (ev_lst (ea_cons ev_str (ea_cons ev_str ea_nil))) (ea_cons (ev_var 2) ea_nil))))))
 (eb_cons (es_if (et_cmp (op_eqU hr.units) lf_eq (ev_ix (ev_var 0) ev_int) ev_str)
 (eb_one (es_ret (ev_bin op_addU lf_add (ev_lst (ea_cons ev_int (ea_cons (ev_var 1) (ea_cons (ev_cB cr_len lc_len T.m_len (ea_cons (ev_ix (ev_var 0) ev_int) ea_nil)) ea_nil)))) (ev_cT call_list_of lc_list T.m_list (ea_cons (ev_ix (ev_var 0) ev_int) ea_nil)))))
 eb_nil)
 (eb_cons (es_set 3 sc_law_form.nd (ev_bin op_addU lf_add (ev_lst (ea_cons (ev_mt PySem.F.plainAttrs_list PySem.F.slot_list_index PySem.F.type_list_index (.inl rfl) mt_index lm_ixo (ev_lst (ea_cons ev_str (ea_cons ev_str ea_nil))) (ea_cons (ev_ix (ev_var 0) ev_int) ea_nil)) (ea_cons (ev_var 1) ea_nil))) (ev_call (ok_law_groups T) (hr.mono (by decide)) T.d_law_groups.g T.d_law_groups.fn.kp T.d_law_groups.b (ea_cons (ev_ix (ev_var 0) ev_int) ea_nil))))
 (eb_cons (es_if (et_cmp (op_eqU hr.units) lf_eq (ev_ix (ev_var 0) ev_int) ev_str)
 (eb_one (es_ret (ev_var 3)))
 eb_nil)
 (eb_cons (es_if (et_cmp op_isU lf_is (ev_ix (ev_var 0) ev_int) ev_non)
 (eb_one (es_ret (ev_bin op_addU lf_add (ev_var 3) (ev_lst (ea_cons ev_int ea_nil)))))
 eb_nil)
 (eb_cons (es_expr (ev_mt PySem.F.plainAttrs_list PySem.F.slot_list_append PySem.F.type_list_append (.inl rfl) mt_append lm_app (ev_var 3) (ea_cons (ev_cB cr_len lc_len T.m_len (ea_cons (ev_ix (ev_var 0) ev_int) ea_nil)) ea_nil)))
 (eb_cons (es_for PassesOwn.never rfl (ei_rg1 T.m_range (ea_cons (ev_cB cr_len lc_len T.m_len (ea_cons (ev_ix (ev_var 0) ev_int) ea_nil)) ea_nil)) (eg_nm 4 sc_law_form.nd)
 (eb_cons (es_set 5 sc_law_form.nd (ev_ix (ev_ix (ev_var 0) ev_int) (ev_var 4)))
 (eb_cons (es_if (et_cmp (op_gtU hr.units0) lf_gt2 (ev_var 4) ev_int)
 (eb_one (es_set 5 sc_law_form.nd (ev_if (et_cmp op_ge lf_ge (ev_var 5) ev_int) (ev_bin op_mul lf_mul ev_int (ev_var 5)) (ev_bin op_sub lf_sub (ev_bin op_sub lf_sub ev_int (ev_bin op_mul lf_mul ev_int (ev_var 5))) ev_int))))
 eb_nil)
 (eb_one (es_expr (ev_mt PySem.F.plainAttrs_list PySem.F.slot_list_extend PySem.F.type_list_extend (.inl rfl) mt_ext2 lm_ext2 (ev_var 3) (ea_cons (ev_call (ok_law_groups T) (hr.mono (by decide)) T.d_law_groups.g T.d_law_groups.fn.kp T.d_law_groups.b (ea_cons (ev_var 5) ea_nil)) ea_nil)))))))
 (eb_one (es_ret (ev_var 3)))))))))))) pu_law_form nx_law_form

theorem ok_law_joined (T : Tx K mg) : FnOk P w K mg base CX0 3 T.f_law_joined T.fd_law_joined ["letters"] (dn K sp_law_joined) :=
  fn_ok T.d_law_joined.fn sc_law_joined ln_law_joined (fun cdv A outer s H E hr => 
 (eb_cons (es_set 1 sc_law_joined.nd (ev_lst ea_nil))
 (eb_cons (es_for PassesOwn.never rfl (ei_lst (ev_var 0)) (eg_nm 2 sc_law_joined.nd)
 (eb_one (es_expr (ev_mt PySem.F.plainAttrs_list PySem.F.slot_list_extend PySem.F.type_list_extend (.inl rfl) mt_ext2 lm_ext2 (ev_var 1) (ea_cons (ev_call (ok_law_form T) (hr.mono (by decide)) T.d_law_form.g T.d_law_form.fn.kp T.d_law_form.b (ea_cons (ev_var 2) ea_nil)) ea_nil)))))
 (eb_one (es_ret (ev_var 1)))))) pu_law_joined nx_law_joined

theorem ok_law (T : Tx K mg) : FnOk P w K mg base CX0 6 T.f_law T.fd_law ["script"] (dn K sp_law) :=
  fn_ok T.d_law.fn sc_law ln_law (fun cdv A outer s H E hr => 
 (eb_cons (es_for PassesOwn.never rfl (ei_lst (ev_call0 (ok_law_edges T) (hr.mono (by decide)) T.d_law_edges.g T.d_law_edges.fn.kp T.d_law_edges.b)) (eg_nm 1 sc_law.nd)
 (eb_one (es_if (et_not (et_val (ev_call (ok_law_same T 5) (hr.mono (by decide)) T.d_law_same.g T.d_law_same.fn.kp T.d_law_same.b (ea_cons (ev_call (ok_encode_letter T) (hr.mono (by decide)) T.d_encode_letter.g T.d_encode_letter.fn.kp T.d_encode_letter.b (ea_cons (ev_var 1) ea_nil)) (ea_cons (ev_cT call_tuple_of lc_tup T.m_tuple (ea_cons (ev_call (ok_law_form T) (hr.mono (by decide)) T.d_law_form.g T.d_law_form.fn.kp T.d_law_form.b (ea_cons (ev_var 1) ea_nil)) ea_nil)) ea_nil)))))
 (eb_one (es_ret ev_bl))
 eb_nil)))
 (eb_cons (es_for PassesOwn.never rfl (ei_rg1 T.m_range (ea_cons (ev_cB (call_max2 rfl) lc_max T.m_max (ea_cons ev_int (ea_cons (ev_cB (call_min2 rfl) lc_min T.m_min (ea_cons (ev_cB cr_len lc_len T.m_len (ea_cons (ev_var 0) ea_nil)) (ea_cons ev_int ea_nil))) ea_nil))) ea_nil)) (eg_nm 2 sc_law.nd)
 (eb_cons (es_set 3 sc_law.nd (ev_call (ok_law_box T) (hr.mono (by decide)) T.d_law_box.g T.d_law_box.fn.kp T.d_law_box.b (ea_cons (ev_var 0) (ea_cons (ev_var 2) ea_nil))))
 (eb_cons (es_setLc 4 6 rfl sc_law.nd (ei_rg1 T.m_range (ea_cons (ev_call (ok_law_take T) (hr.mono (by decide)) T.d_law_take.g T.d_law_take.fn.kp T.d_law_take.b (ea_cons (ev_var 3) (ea_cons ev_int ea_nil))) ea_nil)) (blkOk_by (N := ["script", "letter", "k", "box", "letters", "back", "turn"]) (sc := defScope s_law) (by decide +kernel)) (fun _ _ _ _ _ => pg_name (i := 6) sc_law.nd rfl (Or.inl rfl)) (fun _ _ _ _ _ => ep_nil) (fun _ _ _ _ _ => (ev_call (ok_law_letter T) (hr.mono (by decide)) T.d_law_letter.g T.d_law_letter.fn.kp T.d_law_letter.b (ea_cons (ev_var 3) ea_nil))) (sw_true rfl rfl rfl (by decide +kernel)))
 (eb_cons (es_for PassesOwn.never rfl (ei_lst (ev_var 4)) (eg_nm 1 sc_law.nd)
 (eb_one (es_if (et_not (et_val (ev_call (ok_law_same T 5) (hr.mono (by decide)) T.d_law_same.g T.d_law_same.fn.kp T.d_law_same.b (ea_cons (ev_call (ok_encode_letter T) (hr.mono (by decide)) T.d_encode_letter.g T.d_encode_letter.fn.kp T.d_encode_letter.b (ea_cons (ev_var 1) ea_nil)) (ea_cons (ev_cT call_tuple_of lc_tup T.m_tuple (ea_cons (ev_call (ok_law_form T) (hr.mono (by decide)) T.d_law_form.g T.d_law_form.fn.kp T.d_law_form.b (ea_cons (ev_var 1) ea_nil)) ea_nil)) ea_nil)))))
 (eb_one (es_ret ev_bl))
 eb_nil)))
 (eb_cons (es_if (et_not (et_val (ev_call (ok_law_same T 5) (hr.mono (by decide)) T.d_law_same.g T.d_law_same.fn.kp T.d_law_same.b (ea_cons (ev_call (ok_encode_stream T) (hr.mono (by decide)) T.d_encode_stream.g T.d_encode_stream.fn.kp T.d_encode_stream.b (ea_cons (ev_cT call_tuple_of lc_tup T.m_tuple (ea_cons (ev_var 4) ea_nil)) ea_nil)) (ea_cons (ev_cT call_tuple_of lc_tup T.m_tuple (ea_cons (ev_call (ok_law_joined T) (hr.mono (by decide)) T.d_law_joined.g T.d_law_joined.fn.kp T.d_law_joined.b (ea_cons (ev_var 4) ea_nil)) ea_nil)) ea_nil)))))
 (eb_one (es_ret ev_bl))
 eb_nil)
 (eb_cons (es_set 5 sc_law.nd (ev_bin op_addU lf_add (ev_rev (ev_var 4)) (ev_var 4)))
 (eb_cons (es_if (et_not (et_val (ev_call (ok_law_same T 5) (hr.mono (by decide)) T.d_law_same.g T.d_law_same.fn.kp T.d_law_same.b (ea_cons (ev_callK0 (ok_encode_stream T) (hr.mono (by decide)) T.d_encode_stream.g T.d_encode_stream.fn.kp T.kb_encode_stream_0_letters (ek_cons (ev_cT call_tuple_of lc_tup T.m_tuple (ea_cons (ev_var 5) ea_nil)) ek_nil)) (ea_cons (ev_cT call_tuple_of lc_tup T.m_tuple (ea_cons (ev_call (ok_law_joined T) (hr.mono (by decide)) T.d_law_joined.g T.d_law_joined.fn.kp T.d_law_joined.b (ea_cons (ev_var 5) ea_nil)) ea_nil)) ea_nil)))))
 (eb_one (es_ret ev_bl))
 eb_nil)
 (eb_one (es_if (et_ew (ew_and (et_cmp (op_gtU hr.units0) lf_gt2 (ev_cB cr_len lc_len T.m_len (ea_cons (ev_var 4) ea_nil)) ev_int) (ew_and1 (et_not (et_val (ev_call (ok_law_same T 5) (hr.mono (by decide)) T.d_law_same.g T.d_law_same.fn.kp T.d_law_same.b (ea_cons (ev_callK0 (ok_encode_letter T) (hr.mono (by decide)) T.d_encode_letter.g T.d_encode_letter.fn.kp T.kb_encode_letter_0_letter (ek_cons (ev_ix (ev_var 4) ev_int) ek_nil)) (ea_cons (ev_cT call_tuple_of lc_tup T.m_tuple (ea_cons (ev_call (ok_law_form T) (hr.mono (by decide)) T.d_law_form.g T.d_law_form.fn.kp T.d_law_form.b (ea_cons (ev_ix (ev_var 4) ev_int) ea_nil)) ea_nil)) ea_nil))))))))
 (eb_one (es_ret ev_bl))
 eb_nil)))))))))
 (eb_one (es_ret ev_bl))))) pu_law nx_law

end


end K07

open PySem PySem.W PyProof.Rows
set_option maxHeartbeats 0 in
theorem PySem.Challenge.cw_maypoint_k07_letters_as_octets_holds : PySem.Challenge.rw_maypoint_k07_letters_as_octets.Holds := by
  w_on; o_law; k_head; (case hw => w_witness2)
  k_fill
  refine L2.walk_of (l := PySem.Challenge.rw_maypoint_k07_letters_as_octets) (n := 63) (k := 6) (x := "script") (CX := fun _ => L2.CX0) (sp := fun w => Y.dn _ K07.sp_law) rfl (by decide) rfl ⟨rfl, by decide, by decide⟩ (fun w h Y => PySem.W.kIn_of Y) ?F (fun _ _ a ns hl ho hS => Y.law_in K07.law_ok hl ho hS (fun _ => rfl)) (fun _ _ _ _ _ h => h)
  case F =>
    intro w mg fa h KX G hmg
    refine' (fun d_law_edges => ?_) (K07.df_mk (x := "_law_edges") (st := K07.s_law_edges) (ps := []) KX G ?a ?l ?c ?k (fun _ _ _ _ _ _ us hl => match us, hl with | [], _ => rfl))
    (case a => k_is); (case l => k_is); (case c => k_is); (case k => k_is)

    refine' (fun d_law_box => ?_) (K07.df_mk (x := "_law_box") (st := K07.s_law_box) (ps := ["script", "k"]) KX G ?a ?l ?c ?k (fun _ _ _ _ _ _ us hl => match us, hl with | [_, _], _ => rfl))
    (case a => k_is); (case l => k_is); (case c => k_is); (case k => k_is)

    refine' (fun d_law_same => ?_) (K07.df_mk (x := "_law_same") (st := K07.s_law_same) (ps := ["told", "due"]) KX G ?a ?l ?c ?k (fun _ _ _ _ _ _ us hl => match us, hl with | [_, _], _ => rfl))
    (case a => k_is); (case l => k_is); (case c => k_is); (case k => k_is)

    refine' (fun d_law_take => ?_) (K07.df_mk (x := "_law_take") (st := K07.s_law_take) (ps := ["box", "many"]) KX G ?a ?l ?c ?k (fun _ _ _ _ _ _ us hl => match us, hl with | [_, _], _ => rfl))
    (case a => k_is); (case l => k_is); (case c => k_is); (case k => k_is)

    refine' (fun d_law_pick => ?_) (K07.df_mk (x := "_law_pick") (st := K07.s_law_pick) (ps := ["box", "some"]) KX G ?a ?l ?c ?k (fun _ _ _ _ _ _ us hl => match us, hl with | [_, _], _ => rfl))
    (case a => k_is); (case l => k_is); (case c => k_is); (case k => k_is)

    refine' (fun d_law_signs => ?_) (K07.df_mk (x := "_law_signs") (st := K07.s_law_signs) (ps := ["box", "many"]) KX G ?a ?l ?c ?k (fun _ _ _ _ _ _ us hl => match us, hl with | [_, _], _ => rfl))
    (case a => k_is); (case l => k_is); (case c => k_is); (case k => k_is)

    refine' (fun d_law_entry => ?_) (K07.df_mk (x := "_law_entry") (st := K07.s_law_entry) (ps := ["box"]) KX G ?a ?l ?c ?k (fun _ _ _ _ _ _ us hl => match us, hl with | [_], _ => rfl))
    (case a => k_is); (case l => k_is); (case c => k_is); (case k => k_is)

    refine' (fun d_law_figure => ?_) (K07.df_mk (x := "_law_figure") (st := K07.s_law_figure) (ps := ["box"]) KX G ?a ?l ?c ?k (fun _ _ _ _ _ _ us hl => match us, hl with | [_], _ => rfl))
    (case a => k_is); (case l => k_is); (case c => k_is); (case k => k_is)

    refine' (fun d_law_letter => ?_) (K07.df_mk (x := "_law_letter") (st := K07.s_law_letter) (ps := ["box"]) KX G ?a ?l ?c ?k (fun _ _ _ _ _ _ us hl => match us, hl with | [_], _ => rfl))
    (case a => k_is); (case l => k_is); (case c => k_is); (case k => k_is)

    refine' (fun d_groups_of => ?_) (K07.df_mk (x := "groups_of") (st := K07.s_groups_of) (ps := ["whole"]) KX G ?a ?l ?c ?k (fun _ _ _ _ _ _ us hl => match us, hl with | [_], _ => rfl))
    (case a => k_is); (case l => k_is); (case c => k_is); (case k => k_is)

    refine' (fun d_stretch_octet => ?_) (K07.df_mk (x := "stretch_octet") (st := K07.s_stretch_octet) (ps := ["stretch"]) KX G ?a ?l ?c ?k (fun _ _ _ _ _ _ us hl => match us, hl with | [_], _ => rfl))
    (case a => k_is); (case l => k_is); (case c => k_is); (case k => k_is)

    refine' (fun d_number_octets => ?_) (K07.df_mk (x := "number_octets") (st := K07.s_number_octets) (ps := ["number"]) KX G ?a ?l ?c ?k (fun _ _ _ _ _ _ us hl => match us, hl with | [_], _ => rfl))
    (case a => k_is); (case l => k_is); (case c => k_is); (case k => k_is)

    refine' (fun d_encode_letter => ?_) (K07.df_mk (x := "encode_letter") (st := K07.s_encode_letter) (ps := ["letter"]) KX G ?a ?l ?c ?k (fun _ _ _ _ _ _ us hl => match us, hl with | [_], _ => rfl))
    (case a => k_is); (case l => k_is); (case c => k_is); (case k => k_is)

    refine' (fun d_encode_stream => ?_) (K07.df_mk (x := "encode_stream") (st := K07.s_encode_stream) (ps := ["letters"]) KX G ?a ?l ?c ?k (fun _ _ _ _ _ _ us hl => match us, hl with | [_], _ => rfl))
    (case a => k_is); (case l => k_is); (case c => k_is); (case k => k_is)

    refine' (fun d_law_groups => ?_) (K07.df_mk (x := "_law_groups") (st := K07.s_law_groups) (ps := ["worth"]) KX G ?a ?l ?c ?k (fun _ _ _ _ _ _ us hl => match us, hl with | [_], _ => rfl))
    (case a => k_is); (case l => k_is); (case c => k_is); (case k => k_is)

    refine' (fun d_law_form => ?_) (K07.df_mk (x := "_law_form") (st := K07.s_law_form) (ps := ["letter"]) KX G ?a ?l ?c ?k (fun _ _ _ _ _ _ us hl => match us, hl with | [_], _ => rfl))
    (case a => k_is); (case l => k_is); (case c => k_is); (case k => k_is)

    refine' (fun d_law_joined => ?_) (K07.df_mk (x := "_law_joined") (st := K07.s_law_joined) (ps := ["letters"]) KX G ?a ?l ?c ?k (fun _ _ _ _ _ _ us hl => match us, hl with | [_], _ => rfl))
    (case a => k_is); (case l => k_is); (case c => k_is); (case k => k_is)

    refine' (fun d_law => ?_) (K07.df_mk (x := "law") (st := K07.s_law) (ps := ["script"]) KX G ?a ?l ?c ?k (fun _ _ _ _ _ _ us hl => match us, hl with | [_], _ => rfl))
    (case a => k_is); (case l => k_is); (case c => k_is); (case k => k_is)

    refine' (fun m_abs => ?_) (PySem.W.mg_none_of KX G (n := "abs") ?z)
    (case z => k_is)

    refine' (fun m_bool => ?_) (PySem.W.mg_none_of KX G (n := "bool") ?z)
    (case z => k_is)

    refine' (fun m_int => ?_) (PySem.W.mg_none_of KX G (n := "int") ?z)
    (case z => k_is)

    refine' (fun m_isinstance => ?_) (PySem.W.mg_none_of KX G (n := "isinstance") ?z)
    (case z => k_is)

    refine' (fun m_len => ?_) (PySem.W.mg_none_of KX G (n := "len") ?z)
    (case z => k_is)

    refine' (fun m_list => ?_) (PySem.W.mg_none_of KX G (n := "list") ?z)
    (case z => k_is)

    refine' (fun m_max => ?_) (PySem.W.mg_none_of KX G (n := "max") ?z)
    (case z => k_is)

    refine' (fun m_min => ?_) (PySem.W.mg_none_of KX G (n := "min") ?z)
    (case z => k_is)

    refine' (fun m_range => ?_) (PySem.W.mg_none_of KX G (n := "range") ?z)
    (case z => k_is)

    refine' (fun m_str => ?_) (PySem.W.mg_none_of KX G (n := "str") ?z)
    (case z => k_is)

    refine' (fun m_tuple => ?_) (PySem.W.mg_none_of KX G (n := "tuple") ?z)
    (case z => k_is)

    refine' (fun m_zip => ?_) (PySem.W.mg_none_of KX G (n := "zip") ?z)
    (case z => k_is)

    refine' (fun c_ACK => ?_) (PySem.W.mg_of KX G (n := "ACK") ?z)
    (case z => k_is)

    refine' (fun c_MAIL => ?_) (PySem.W.mg_of KX G (n := "MAIL") ?z)
    (case z => k_is)

    refine' (fun c_REPORT => ?_) (PySem.W.mg_of KX G (n := "REPORT") ?z)
    (case z => k_is)

    have kb_encode_letter_0_letter := Y.kb_mk (ps := ["letter"]) (ks := ["letter"]) (n := 0) (m := 1) (π := [0]) d_encode_letter.fn (by simp) (fun _ _ _ _ _ _ us ws h1 h2 => match us, ws, h1, h2 with | [], [_], _, _ => by first | rfl | with_unfolding_all rfl)

    have kb_encode_stream_0_letters := Y.kb_mk (ps := ["letters"]) (ks := ["letters"]) (n := 0) (m := 1) (π := [0]) d_encode_stream.fn (by simp) (fun _ _ _ _ _ _ us ws h1 h2 => match us, ws, h1, h2 with | [], [_], _, _ => by first | rfl | with_unfolding_all rfl)

    have e := hmg.symm.trans d_law.g
    cases e
    refine ⟨_, ?b, fun base _ _ => K07.ok_law (⟨_, _, d_law_edges, _, _, d_law_box, _, _, d_law_same, _, _, d_law_take, _, _, d_law_pick, _, _, d_law_signs, _, _, d_law_entry, _, _, d_law_figure, _, _, d_law_letter, _, _, d_groups_of, _, _, d_stretch_octet, _, _, d_number_octets, _, _, d_encode_letter, _, _, d_encode_stream, _, _, d_law_groups, _, _, d_law_form, _, _, d_law_joined, _, _, d_law, m_abs, m_bool, m_int, m_isinstance, m_len, m_list, m_max, m_min, m_range, m_str, m_tuple, m_zip, ⟨_, c_ACK⟩, ⟨_, c_MAIL⟩, ⟨_, c_REPORT⟩, kb_encode_letter_0_letter, kb_encode_stream_0_letters⟩ : K07.Tx _ mg)⟩
    exact fun s v => .of_eq rfl
