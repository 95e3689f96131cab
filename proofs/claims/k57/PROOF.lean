import PyProof.Rows.All
import Wide.All
import OpenK.AllK
import Wide.FinOn
import Lean
import PyProof.EqAt
import PyProof.EqKinds
import PyProof.TupleCall
import PyProof.DictItems
import PyProof.Rows.SortShell
import PyProof.ListRange
import PyProof.ZipIter
import PySem.Challenge.RW_codemill_k57_whole_nothing_to_swap
local macro_rules | `(tactic| trivial) => `(tactic| (dsimp only; decide +kernel))
local macro_rules | `(tactic| trivial) => `(tactic| decide +kernel)
abbrev ka:=@Bool.false_ne_true
abbrev kc:=@Nat.le_refl
abbrev kd:=@List.getElem?_eq_some_iff
abbrev ke:=@decide_eq_false
abbrev kf:=@decide_eq_true
abbrev kg:=@List.length_map
abbrev kh:=@List.length_append
abbrev ki:=@PySem.W.mg_of
abbrev kj:=@List.mem_singleton
abbrev kl:=@List.not_mem_nil
abbrev km:=@Nat.le_trans
abbrev ko:=PySem.W.Frag
abbrev kq:=@if_neg
abbrev kr:=@if_pos
abbrev ku:=@Option.some.inj
abbrev kw:=@of_decide_eq_true
abbrev kx:=@List.mem_cons
abbrev ky:=@List.size_toArray
abbrev kz:=@List.length_singleton
abbrev kA:=@List.mem_of_getElem?
abbrev kD:=@List.map_append
abbrev kE:=@List.getElem?_eq_getElem
abbrev kF:=@Nat.lt_of_lt_of_le
abbrev kG:=@List.mem_append_right
abbrev kH:=@List.mem_append_left
abbrev kI:=@List.length_cons
abbrev kJ:=@List.mem_cons_self
abbrev kK:=@List.mem_cons_of_mem
abbrev kL:=@List.mem_append
abbrev kM:=@List.map_cons
abbrev kN:=@List.append_nil
abbrev kO:=@List.append_assoc
abbrev kP:=@Nat.le_of_eq
abbrev kQ:=@Int.eq_ofNat_of_zero_le
abbrev kR:=@Int.toNat_natCast
abbrev kW:=@Bool.and_eq_true
abbrev kX:=@decide_eq_true_eq
abbrev kY:=@List.mem_map
abbrev kZ:=@List.getElem?_append_left
abbrev ya:=@List.getElem?_append_right
set_option genInjectivity true
set_option genSizeOf false
set_option Elab.async false
set_option linter.all false
set_option maxRecDepth 100000
theorem aR (h:True=True:=by rfl) (k:(0:Nat)=0:=by decide):True:=trivial
namespace L2
open PySem PySem.Spec PyProof.Rows
abbrev Key:=Sum Int Str
noncomputable def Jb:Key→Value→Bool
 | .inl k,v=>Value.isInt k v
 | .inr x,v=>Value.isStrOf x v
noncomputable def keyH (w:World):Key→Int
 | .inl k=>hashInt k
 | .inr x=>hashStr w x
theorem zJ:∀{k:Key} {v:Value},Jb k v=true→(∃i t,k=Sum.inl i∧v=Value.int i t)∨(∃x t,k=Sum.inr x∧v=Value.str x t)
 | .inl i,v,h=>by
  obtain ⟨t,e⟩:=Value.isInt_shape (k:=i) (v:=v) h
  exact .inl ⟨i,t,rfl,e⟩
 | .inr x,v,h=>by
  obtain ⟨t,e⟩:=Value.isStrOf_shape (x:=x) (v:=v) h
  exact .inr ⟨x,t,rfl,e⟩
theorem z1p (i:Int) (t:Tok):Jb (.inl i) (.int i t)=true:=by simp [Jb,Value.isInt]
theorem z1n (x:Str) (t:Tok):Jb (.inr x) (.str x t)=true:=by simp [Jb,Value.isStrOf]
theorem z50 (a b:Int):decide ((Sum.inl a:Key)=Sum.inl b)=(a == b):=by
 by_cases e:a=b
 ·subst e;simp
 ·have h:¬(Sum.inl a:Key)=Sum.inl b:=fun q=>e (Sum.inl.inj q)
  rw [ke h]
  exact (beq_eq_false_iff_ne.mpr e).symm
theorem z4X (a b:Str):decide ((Sum.inr a:Key)=Sum.inr b)=decide (a=b):=by
 by_cases e:a=b
 ·subst e;simp
 ·have h:¬(Sum.inr a:Key)=Sum.inr b:=fun q=>e (Sum.inr.inj q)
  rw [ke h,ke e]
theorem z4Z (a:Int) (b:Str):decide ((Sum.inl a:Key)=Sum.inr b)=false:=ke (fun q=>nomatch q)
theorem z4Y (a:Str) (b:Int):decide ((Sum.inr a:Key)=Sum.inl b)=false:=ke (fun q=>nomatch q)
noncomputable def zD (prog:Program) (w:World):PySem.KeyKind prog w Key where
 is:=Jb
 hash:=keyH w
 inj:=fun v a b ha hb=>by
  rcases zJ ha with ⟨i,t,rfl,rfl⟩ | ⟨x,t,rfl,rfl⟩
  ·rcases zJ hb with ⟨j,u,rfl,e⟩ | ⟨y,u,rfl,e⟩
   ·injection e with e1 _;rw [e1]
   ·exact nomatch e
  ·rcases zJ hb with ⟨j,u,rfl,e⟩ | ⟨y,u,rfl,e⟩
   ·exact nomatch e
   ·injection e with e1 _;rw [e1]
 byValue:=fun k v h=>by
  rcases zJ h with ⟨i,t,rfl,rfl⟩ | ⟨x,t,rfl,rfl⟩ <;> rfl
 pyHash:=fun hv h=>by
  rcases zJ hv with ⟨i,t,rfl,rfl⟩ | ⟨x,t,rfl,rfl⟩
  ·exact wpAny_pyHash_int h
  ·exact wpAny_pyHash_str h
 eqBool:=fun hu hv h=>by
  rcases zJ hu with ⟨i,t,rfl,rfl⟩ | ⟨x,t,rfl,rfl⟩
  ·rcases zJ hv with ⟨j,u,rfl,rfl⟩ | ⟨y,u,rfl,rfl⟩
   ·rw [z50] at h;exact wpAny_eqBool_int h
   ·rw [z4Z] at h;exact SeqAt.EqAt.int_str i t y u _ _ _ _ h
  ·rcases zJ hv with ⟨j,u,rfl,rfl⟩ | ⟨y,u,rfl,rfl⟩
   ·rw [z4Y] at h;exact SeqAt.EqAt.str_int x t j u _ _ _ _ h
   ·rw [z4X] at h;exact wpAny_eqBool_str h
 «strs»:=fun k x t v h=>by
  rcases zJ h with ⟨i,u,rfl,e⟩ | ⟨y,u,rfl,e⟩
  ·exact nomatch e
  ·injection e with e1 _
   subst e1
   cases v <;> rfl
theorem J9 (prog:Program) (w:World) (i:Int) (t:Tok):(zD prog w).is (.inl i) (.int i t)=true:=z1p i t
theorem J8 (prog:Program) (w:World) (x:Str) (t:Tok):(zD prog w).is (.inr x) (.str x t)=true:=z1n x t
end L2
namespace L2
open PySem PySem.Spec PyProof.Rows
inductive V where
 | non | bl (b:Bool) | int (i:Int) | str (x:Str) | byt (b:Array UInt8) | flt (b:UInt64) | ref (a:Addr) | ty (n:String)
 deriving DecidableEq
def RelV:V→Value→Prop
 | .non,u=>u=Value.none
 | .bl b,u=>u=Value.bool b
 | .int i,u=>∃t,u=Value.int i t
 | .str x,u=>∃t,u=Value.str x t
 | .byt b,u=>∃t,u=Value.bytes b t
 | .flt b,u=>∃t,u=Value.float b t
 | .ref a,u=>u=Value.ref a
 | .ty n,u=>u=Value.type n
abbrev Vals:List V→List Value→Prop:=Paired RelV
theorem Vals.length {xs:List V} {us:List Value} (r:Vals xs us):xs.length=us.length:=Paired.length r
theorem Vals.get:∀{xs:List V} {us:List Value} {i:Nat} {x:V},Vals xs us→xs[i]?=some x→∃u,us[i]?=some u∧RelV x u
 | _,_,_,_,.nil,e=>by simp at e
 | _,_,0,_,.cons r _,e=>by simp at e;subst e;exact ⟨_,rfl,r⟩
 | _,_,i+1,x,.cons _ t,e=>by
  obtain ⟨u,h1,h2⟩:=Vals.get (i:=i) (x:=x) t (by simpa using e)
  exact ⟨u,by simpa using h1,h2⟩
theorem Vals.set {x:V} {u:Value} (r:RelV x u):∀{xs:List V} {us:List Value} (i:Nat),Vals xs us→Vals (xs.set i x) (us.set i u)
 | _,_,_,.nil=>.nil
 | _,_,0,.cons _ t=>.cons r t
 | _,_,i+1,.cons q t=>.cons q (Vals.set r i t)
theorem Vals.append:∀{xs ys:List V} {us ws:List Value},Vals xs us→Vals ys ws→Vals (xs++ys) (us++ws)
 | _,_,_,_,.nil,s=>s
 | _,_,_,_,.cons r t,s=>.cons r (Vals.append t s)
theorem Vals.take:∀{xs:List V} {us:List Value} (n:Nat),Vals xs us→Vals (xs.take n) (us.take n)
 | _,_,0,_=>.nil
 | _,_,_+1,.nil=>.nil
 | _,_,n+1,.cons r t=>.cons r (Vals.take n t)
theorem Vals.drop:∀{xs:List V} {us:List Value} (n:Nat),Vals xs us→Vals (xs.drop n) (us.drop n)
 | _,_,0,r=>r
 | _,_,_+1,.nil=>.nil
 | _,_,n+1,.cons _ t=>Vals.drop n t
def RelO:Option V→Option Value→Prop
 | some v,some u=>RelV v u
 | none,none=>True
 | _,_=>False
def KV {κ:Type}:List (κ × V)→List (κ × Value)→Prop:=Paired fun (p:κ × V) (q:κ × Value)=>p.1=q.1∧RelV p.2 q.2
noncomputable def kV:Key→V
 | .inl i=>.int i
 | .inr x=>.str x
inductive HO where
 | lst (xs:List V)
 | tup (xs:List V)
 | dK (kvs:List (Key × V)) | dT (kvs:List (List Key × V))
 | set (S:Int→Bool) (n:Nat)
 | ins (C dx:Addr) (fs:List (Str × V))
 | own (x:Addr)
 | xd (fs:List (Str × V))
 | met (f x:Addr)
 | rng (lo hi:Int)
 | frz (o:Obj) (u:HO)
 | tbl (ps:Array Value)
 | ext (φ:Heap→Prop)
abbrev Hp:=Addr→Option HO
noncomputable def upd (H:Hp) (a:Addr) (o:HO):Hp:=fun b=>if b=a then some o else H b
theorem z6 {H:Hp} {a:Addr} {o:HO}:upd H a o a=some o:=by unfold upd;rw [kr rfl]
theorem zc {H:Hp} {a b:Addr} {o:HO} (h:b≠a):upd H a o b=H b:=by unfold upd;rw [kq h]
theorem z3F {H:Hp} {a:Addr} {o u:HO}:upd (upd H a o) a u=upd H a u:=by
 funext b;unfold upd;split <;> rfl
theorem jW {H:Hp} {a b:Addr} {o u:HO} (h:H a=some o) (h':H b=some u) (d:o≠u):a≠b:=by
 intro e;subst e;rw [h] at h';exact d (ku h')
theorem z8 {H:Hp} {a b:Addr} {o:HO} (h:H a=some o) (h':H b=none):a≠b:=by
 intro e;subst e;rw [h] at h';cases h'
section
variable (P:Program) (w:World)
def zN (H:Hp) (h:Heap) (a:Addr):HO→Prop
 | .lst xs=>xs.length≤sizeLine∧∃(its:List Value) (n:Nat),Vals xs its∧h.get? a=some { cls:=.type "list",data:=.seq its.toArray n }
 | .tup xs=>xs.length≤sizeLine∧∃its:List Value,Vals xs its∧IsTup h a its.toArray
 | .dK kvs=>kvs.length≤sizeLine∧(a == sysModules)=false∧∃vs,KV kvs vs∧h.DictOf (zD P w) a vs
 | .dT kvs=>kvs.length≤sizeLine∧(a == sysModules)=false∧∃xs:List (List Key × Addr × Value),
   Paired (fun (p:List Key × V) (q:List Key × Addr × Value)=>p.1=q.1∧H q.2.1=some (.tup (p.1.map kV))∧RelV p.2 q.2.2) kvs xs∧
   ∃o es ep,h.get? a=some o∧o.ExactDict∧o.data=.dict es ep∧es.toList=xs.map (entryOfKey (tupleKind (zD P w)))∧(xs.map (·.1)).Nodup
 | .set S n=>h.SetOf (intKind P w) a S n
 | .ins C dx fs=>H dx=some (.own a)∧fs.length≤1000∧dx≠a∧h.get? a=some (PySem.W.instObj C dx)∧
   ∃mA,h.Ns1 dx mA∧(∀f,RelO (fs.lookup f) (mA f))∧PySem.Within mA (fs.map (·.1))
 | .own _=>∃o,h.get? a=some o
 | .xd fs=>∃mA,h.Ns1 a mA∧∀f,RelO (fs.lookup f) (mA f)
 | .rng lo hi=>∃t u v,h.get? a=some { cls:=.type "range",data:=.fields #[.int lo t,.int hi u,.int 1 v] }
 | .frz o u=>h.get? a=some o∧zN H h a u
 | .tbl ps=>h.get? a=some { cls:=.none,data:=.fields ps }
 | .met f x=>h.get? a=some (PySem.W.methodObj (.ref f) (.ref x))
 | .ext φ=>φ h∧(∃o,h.get? a=some o)∧∀h1 h2:Heap,φ h1→(∀o,h1.get? a=some o→h2.get? a=some o)→φ h2
def HOk (H:Hp) (h:Heap):Prop:=∀a o,H a=some o→zN P w H h a o
end
section
variable {P:Program} {w:World} {H H':Hp} {h h':Heap} {a:Addr} {o:HO}
theorem zN.lt (x:zN P w H h a o):a < h.objs.size:=by
 cases o with
 | lst xs=>obtain ⟨_,_,_,_,e⟩:=x;exact Heap.lt_size e
 | tup xs=>obtain ⟨_,_,_,p⟩:=x;exact p.lt
 | dK kvs=>obtain ⟨_,_,_,_,o,_,_,e,_⟩:=x;exact Heap.lt_size e
 | dT kvs=>obtain ⟨_,_,_,_,o,_,_,e,_⟩:=x;exact Heap.lt_size e
 | set S n=>obtain ⟨o,_,_,_,e,_⟩:=x;exact Heap.lt_size e
 | ins C dx fs=>obtain ⟨_,_,_,e,_⟩:=x;exact Heap.lt_size e
 | own y=>obtain ⟨_,e⟩:=x;exact Heap.lt_size e
 | xd fs=>obtain ⟨_,⟨_,_,_,e,_⟩,_⟩:=x;exact Heap.lt_size e
 | rng lo hi=>obtain ⟨_,_,_,e⟩:=x;exact Heap.lt_size e
 | frz ob u=>obtain ⟨e,_⟩:=x;exact Heap.lt_size e
 | tbl ps=>exact Heap.lt_size (show h.get? a=some _ from x)
 | met f y=>exact Heap.lt_size (show h.get? a=some _ from x)
 | ext φ=>obtain ⟨_,⟨_,e⟩,_⟩:=x;exact Heap.lt_size e
theorem Paired.mapP {α β:Type} {F G:α→β→Prop}:∀{l₁:List α} {l₂:List β},Paired F l₁ l₂→(∀a b,F a b→G a b)→Paired G l₁ l₂
 | _,_,.nil,_=>.nil
 | _,_,.cons r t,f=>.cons (f _ _ r) (Paired.mapP t f)
theorem zN.stay (x:zN P w H h a o) (k:∀b u,(b=a∨H b=some (.own a))→h.get? b=some u→h'.get? b=some u)
  (ho:∀b,H b=some (.own a)→H' b=some (.own a)) (ht:∀b xs,H b=some (.tup xs)→H' b=some (.tup xs)):zN P w H' h' a o:=by
 induction o with
 | lst xs=>obtain ⟨z,its,n,r,e⟩:=x;exact ⟨z,its,n,r,k _ _ (.inl rfl) e⟩
 | tup xs=>obtain ⟨z,its,r,ob,e,c⟩:=x;exact ⟨z,its,r,ob,k _ _ (.inl rfl) e,c⟩
 | dK kvs=>obtain ⟨z,y,vs,r,ob,es,ep,e,c⟩:=x;exact ⟨z,y,vs,r,ob,es,ep,k _ _ (.inl rfl) e,c⟩
 | dT kvs=>
  obtain ⟨z,y,xs,r,ob,es,ep,e,c⟩:=x
  exact ⟨z,y,xs,Paired.mapP r fun p q z=>⟨z.1,ht _ _ z.2.1,z.2.2⟩,ob,es,ep,k _ _ (.inl rfl) e,c⟩
 | set S n=>obtain ⟨ob,es,ep,t,e,c⟩:=x;exact ⟨ob,es,ep,t,k _ _ (.inl rfl) e,c⟩
 | ins C dx fs=>
  obtain ⟨d,z,ne,e,mA,⟨od,es,ep,e2,c⟩,r⟩:=x
  exact ⟨ho _ d,z,ne,k _ _ (.inl rfl) e,mA,⟨od,es,ep,k _ _ (.inr d) e2,c⟩,r⟩
 | own y=>obtain ⟨ob,e⟩:=x;exact ⟨ob,k _ _ (.inl rfl) e⟩
 | xd fs=>obtain ⟨mA,⟨od,es,ep,e,c⟩,r⟩:=x;exact ⟨mA,⟨od,es,ep,k _ _ (.inl rfl) e,c⟩,r⟩
 | rng lo hi=>obtain ⟨t,u,v,e⟩:=x;exact ⟨t,u,v,k _ _ (.inl rfl) e⟩
 | frz ob u ih=>obtain ⟨e,q⟩:=x;exact ⟨k _ _ (.inl rfl) e,ih q⟩
 | tbl ps=>
  have e:h.get? a=some { cls:=.none,data:=.fields ps }:=x
  show h'.get? a=some { cls:=.none,data:=.fields ps }
  exact k a _ (.inl rfl) e
 | met f y=>
  have e:h.get? a=some (PySem.W.methodObj (.ref f) (.ref y)):=x
  show h'.get? a=some (PySem.W.methodObj (.ref f) (.ref y))
  exact k a _ (.inl rfl) e
 | ext φ=>obtain ⟨p,⟨o,e⟩,st⟩:=x;exact ⟨st _ _ p fun o q=>k _ _ (.inl rfl) q,⟨o,k _ _ (.inl rfl) e⟩,st⟩
theorem HOk.lt (x:HOk P w H h) (e:H a=some o):a < h.objs.size:=(x a o e).lt
theorem HOk.fresh (x:HOk P w H h) (e:h.objs.size≤a):H a=none:=by
 cases q:H a with
 | none=>rfl
 | some u=>exact absurd (kF (x.lt q) e) (Nat.lt_irrefl _)
theorem HOk.kept (x:HOk P w H h) (k:∀b u,h.get? b=some u→h'.get? b=some u):HOk P w H h':=fun a o e=>
 (x a o e).stay (fun b u _ q=>k b u q) (fun _ q=>q) fun _ _ q=>q
theorem HOk.laid (x:HOk P w H h) (k:∀b u,h.get? b=some u→h'.get? b=some u) (hp:h.objs.size≤a) (new:zN P w (upd H a o) h' a o):HOk P w (upd H a o) h':=fun b u e=>by
 have hn:=x.fresh hp
 by_cases hb:b=a
 ·subst hb;rw [z6] at e;cases e;exact new
 ·rw [zc hb] at e
  exact (x b u e).stay (fun c v _ q=>k c v q) (fun c q=>by rw [zc (z8 q hn)];exact q) fun c xs q=>by rw [zc (z8 q hn)];exact q
end
def Rd (H:Hp) (a:Addr) (u:HO):Prop:=H a=some u∨∃o,H a=some (.frz o u)
theorem Rd.ok {P:Program} {w:World} {H:Hp} {h:Heap} {a:Addr} {u:HO} (r:Rd H a u) (x:HOk P w H h):zN P w H h a u:=by
 rcases r with r | ⟨o,r⟩
 ·exact x a u r
 ·obtain ⟨_,q⟩:=x a _ r
  exact q
def Mut:Option HO→Prop
 | some (.lst _)=>True
 | some (.dK _)=>True
 | some (.dT _)=>True
 | some (.set _ _)=>True
 | some (.ins _ _ _)=>True
 | some (.ext _)=>True
 | _=>False
section
variable {P:Program} {w:World} {H:Hp} {h h':Heap} {x e:Addr} {o':HO}
theorem HOk.write (ok:HOk P w H h) (mu:Mut (H x)) (he:e=x∨H e=some (.own x)) (k:∀b u,b≠e→h.get? b=some u→h'.get? b=some u) (heo:∃u,h'.get? e=some u)
  (new:zN P w (upd H x o') h' x o'):HOk P w (upd H x o') h':=fun b u q=>by
 have nown:∀c y,H c=some (.own y)→c≠x:=fun c y r z=>by subst z;rw [r] at mu;exact mu
 have ntup:∀c xs,H c=some (.tup xs)→c≠x:=fun c xs r z=>by subst z;rw [r] at mu;exact mu
 by_cases hb:b=x
 ·subst hb;rw [z6] at q;cases q;exact new
 ·rw [zc hb] at q
  by_cases hbe:b=e
  ·have q':H b=some (.own x):=by
    rcases he with z | z
    ·exact absurd (hbe.trans z) hb
    ·rw [hbe];exact z
   rw [q] at q';cases q'
   obtain ⟨v,hv⟩:=heo
   exact ⟨v,by rw [hbe];exact hv⟩
  ·refine (ok b u q).stay (fun c v hc r=>k c v ?_ r) (fun c r=>by rw [zc (nown c b r)];exact r) fun c xs r=>by rw [zc (ntup c xs r)];exact r
   rcases hc with rfl | hc
   ·exact hbe
   ·rintro rfl
    rcases he with z | z
    ·exact nown c b hc z
    ·rw [hc] at z;cases z;exact hb rfl
end
structure Un (fs ex:List Addr) (H H':Hp) (h h':Heap):Prop where
 keep:∀b o,h.get? b=some o→H b=none→b∉fs→b∉ex→h'.get? b=some o
 slot:∀b o,h.get? b=some o→H b=none→b∈fs→b∉ex→∃sl,h'.get? b=some { o with slots:=sl }
 free:∀b o,h.get? b=some o→H b=none→b∉ex→H' b=none
 there:∀b o,h.get? b=some o→b∉ex→∃o',h'.get? b=some o'
 tups:∀b xs,H b=some (.tup xs)→H' b=some (.tup xs)
 frzs:∀b o u,H b=some (.frz o u)→H' b=some (.frz o u)
 tbls:∀b ps,H b=some (.tbl ps)→∃more,H' b=some (.tbl (ps++more))
section
variable {fs fs' ex ex':List Addr} {H H1 H2:Hp} {h h1 h2 h':Heap} {a x e:Addr} {o:HO}
theorem Un.any (u:Un fs ex H H1 h h1) {b:Addr} {ob:Obj} (q:h.get? b=some ob) (n:H b=none) (hx:b∉ex):∃sl,h1.get? b=some { ob with slots:=sl }:=by
 by_cases hb:b∈fs
 ·exact u.slot b ob q n hb hx
 ·exact ⟨ob.slots,u.keep b ob q n hb hx⟩
theorem Un.kept (k:∀b u,h.get? b=some u→h'.get? b=some u):Un fs ex H H h h':=
 ⟨fun b ob q _ _ _=>k b ob q,fun b ob q _ _ _=>⟨ob.slots,k b ob q⟩,fun _ _ _ n _=>n,fun b ob q _=>⟨ob,k b ob q⟩,fun _ _ q=>q,fun _ _ _ q=>q,fun _ ps q=>⟨#[],by rw [q];simp⟩⟩
theorem Un.refl:Un fs ex H H h h:=Un.kept fun _ _ q=>q
theorem Un.laid (k:∀b u,h.get? b=some u→h'.get? b=some u) (hp:h.objs.size≤a) (hn:H a=none):Un fs ex H (upd H a o) h h' where
 keep:=fun b u q _ _ _=>k b u q
 slot:=fun b u q _ _ _=>⟨u.slots,k b u q⟩
 free:=fun b u q n _=>by rw [zc (Nat.ne_of_lt (kF (Heap.lt_size q) hp))];exact n
 there:=fun b u q _=>⟨u,k b u q⟩
 tups:=fun b xs q=>by rw [zc (z8 q hn)];exact q
 frzs:=fun b u xs q=>by rw [zc (z8 q hn)];exact q
 tbls:=fun b ps q=>⟨#[],by rw [zc (z8 q hn),q];simp⟩
theorem Un.write (mu:Mut (H x)) (he:e=x∨H e=some (.own x)) (k:∀b u,b≠e→h.get? b=some u→h'.get? b=some u) (heo:∃u,h'.get? e=some u):Un fs ex H (upd H x o) h h':=by
 have hx:∀b,H b=none→b≠x:=fun b n z=>by subst z;rw [n] at mu;exact mu
 have hb:∀b,H b=none→b≠e:=fun b n z=>by
  subst z
  rcases he with r | r
  ·exact hx b n r
  ·rw [n] at r;cases r
 have hm:∀b u,H b=some u→¬Mut (some u)→b≠x:=fun b u q nm z=>by subst z;rw [q] at mu;exact nm mu
 refine ⟨fun b u q n _ _=>k b u (hb b n) q,fun b u q n _ _=>⟨u.slots,k b u (hb b n) q⟩,fun b u q n _=>by rw [zc (hx b n)];exact n,fun b u q _=>?_,
  fun b xs q=>by rw [zc (hm b _ q fun z=>z)];exact q,fun b u xs q=>by rw [zc (hm b _ q fun z=>z)];exact q,fun b ps q=>⟨#[],by rw [zc (hm b _ q fun z=>z),q];simp⟩⟩
 by_cases hbe:b=e
 ·subst hbe;exact heo
 ·exact ⟨u,k b u hbe q⟩
end
noncomputable def trk (h:Heap) (H:Hp):List Addr:=(List.range h.objs.size).filter fun a=>(H a).isSome
noncomputable def hidT (h:Heap) (H:Hp):Heap:=PySem.W.hideAll h (trk h H)
theorem z1v (h:Heap) (H:Hp):(hidT h H).objs.size=h.objs.size:=PySem.W.hideAll_size _ _
theorem z2A {h:Heap} {H:Hp} {b:Addr} {o:Obj} (e:h.get? b=some o) (n:H b=none):(hidT h H).get? b=some o:=
 PySem.W.hideAll_get _ e fun hm=>by
  have q:(H b).isSome=true:=(List.mem_filter.mp hm).2
  rw [n] at q;simp at q
theorem z3U {h:Heap} {H:Hp} {b:Addr} {o:Obj} (e:(hidT h H).get? b=some o):h.get? b=some o∧H b=none:=by
 have e':h.get? b=some o:=PySem.W.of_hideAll (trk h H) e
 refine ⟨e',?_⟩
 cases q:H b with
 | none=>rfl
 | some x=>
  have hm:b∈trk h H:=List.mem_filter.mpr ⟨List.mem_range.mpr (Heap.lt_size e'),by simp [q]⟩
  have z:(hidT h H).get? b=none:=PySem.W.hideAll_none (trk h H) hm
  rw [z] at e;cases e
end L2
namespace L2
open PySem PySem.Spec PyProof.Rows
structure Mod (K:ko) (mg:Str→Option Value) (base:Heap):Prop where
 kin:K.In base
 glob:base.Ns mainGlobals mg
 blt:∃mb,base.Ns builtinsNs mb∧∀x:Str,x≠"__name__"→mb x=bootBuiltins x
 nolimit:base.NoLimit
structure Cx where
 prog:Program
 w:World
 K:ko
 mg:Str→Option Value
 base:Heap
 A:Around
 N:List Str
 s₀:Shared
 H₀:Hp
 env:Env
 outer:List Env
 stack:List Env
 ex:List Addr
 fn:Str→Bool
 calm:Bool
 pn:List (Addr × Obj)
 xe:Value→Shared→Prop
noncomputable def frs (l:List Env):List Addr:=l.filterMap (·.frame)
noncomputable abbrev Cx.fs (X:Cx):List Addr:=frs X.outer
def Vis (sc:Scope) (x:Str):Prop:=sc.names.lookup x=some .local∨sc.names.lookup x=some .cell∨sc.names.lookup x=some .free
def Loc (sc:Scope) (x:Str):Prop:=sc.names.lookup x=some .local∨sc.names.lookup x=some .cell
def Look (env:Env) (h:Heap) (m:Str→Option Value) (x:Str) (u:Value):Prop:=
 (env.kindOf x=some .local∧m x=some u)∨((env.kindOf x=some .cell∨env.kindOf x=some .free)∧∃c,env.cells.lookup x=some c∧h.IsCell c (some u))
structure Cx.Ok (X:Cx):Prop where
 mod:Mod X.K X.mg X.base
 kind:X.env.scope.kind=.function
 glob:X.env.globals=mainGlobals
 blt:X.env.builtins=builtinsNs
 above:X.s₀.heap.objs.size≤X.env.locals
 inj:∀x y c,X.env.cells.lookup x=some c→X.env.cells.lookup y=some c→x=y
 has:∀x,(X.env.kindOf x=some .cell∨X.env.kindOf x=some .free)→∃c,X.env.cells.lookup x=some c
 cab:∀x c,X.fn x=true→X.env.cells.lookup x=some c→X.s₀.heap.objs.size≤c
 hd:X.calm=true→X.A.handled=none
 frames:X.A.frames=some X.stack
 stk:X.stack=X.outer∨(X.stack=X.env :: X.outer∧X.env.frame=some X.env.locals)
 exf:∀b∈X.ex,b≠X.env.locals∧∀x c,X.env.cells.lookup x=some c→c≠b
 bs:∀b o,X.base.get? b=some o→X.s₀.heap.get? b=some o∧X.H₀ b=none
 bsz:X.base.objs.size≤X.s₀.heap.objs.size
 noex:∀b o,X.base.get? b=some o→b∉X.ex
 exfs:∀b∈X.ex,b∉X.fs
 funs:X.s₀.heap.FunFrames X.base X.outer
 frf:∀b∈X.fs,X.H₀ b=none
structure Inv (X:Cx) (pins:List (Addr × Obj)) (σ:List (Option V)) (H:Hp) (s:Shared):Prop where
 ok:X.Ok
 os:s.os=X.s₀.os
 bare:AllBare s.gens
 base:Un X.fs X.ex X.H₀ H X.s₀.heap s.heap
 loc:∃m,s.heap.Ns X.env.locals m∧∀(i:Nat) (x:Str) (v:V),X.N[i]?=some x→σ[i]?=some (some v)→Vis X.env.scope x→∃u,RelV v u∧Look X.env s.heap m x u
 cell:∀x c,X.env.cells.lookup x=some c→∃v,s.heap.IsCell c v
 free:H X.env.locals=none
 freeC:∀x c,X.env.cells.lookup x=some c→H c=none
 pin:∀p∈X.pn++pins,s.heap.get? p.1=some p.2∧H p.1=none∧p.1≠X.env.locals∧p.1∉X.fs∧∀v,p.2.data≠.cell v
 hok:HOk X.prog X.w H s.heap
 len:σ.length=X.N.length
section
variable {X:Cx} {pins:List (Addr × Obj)} {σ:List (Option V)} {H H':Hp} {s:Shared} {h':Heap}
theorem Cx.Ok.nofr (ok:X.Ok) {b:Addr} {o:Obj} (e:X.base.get? b=some o):b∉X.fs:=fun hb=>by
 have:=(ok.funs.mem hb).1
 rw [e] at this;cases this
theorem Inv.bs (I:Inv X pins σ H s):∀b o,X.base.get? b=some o→s.heap.get? b=some o∧H b=none:=fun b o e=>
 ⟨I.base.keep b o (I.ok.bs b o e).1 (I.ok.bs b o e).2 (I.ok.nofr e) (I.ok.noex b o e),I.base.free b o (I.ok.bs b o e).1 (I.ok.bs b o e).2 (I.ok.noex b o e)⟩
theorem Inv.bk (I:Inv X pins σ H s):∀b o,X.base.get? b=some o→s.heap.get? b=some o:=fun b o e=>(I.bs b o e).1
theorem Inv.mod (I:Inv X pins σ H s):Mod X.K X.mg X.base:=I.ok.mod
theorem Inv.kIn (I:Inv X pins σ H s):X.K.In s.heap:=I.ok.mod.kin.keeps I.bk
theorem Inv.lt (I:Inv X pins σ H s):X.env.locals < s.heap.objs.size:=let ⟨_,hn,_⟩:=I.loc;hn.lt
theorem Inv.sz (I:Inv X pins σ H s):X.s₀.heap.objs.size≤s.heap.objs.size:=km I.ok.above (Nat.le_of_lt I.lt)
theorem Inv.nofs (I:Inv X pins σ H s) {a:Addr} (h:s.heap.objs.size≤a):a∉X.fs:=fun hb=>by
 obtain ⟨_,o,ho,_⟩:=I.ok.funs.mem hb
 exact absurd (kF (Heap.lt_size ho) (km I.sz h)) (Nat.lt_irrefl _)
theorem Inv.cne (I:Inv X pins σ H s):∀x c,X.env.cells.lookup x=some c→c≠X.env.locals:=fun x c e z=>by
 obtain ⟨v,o,ho,hd⟩:=I.cell x c e
 obtain ⟨m,⟨o',es,ep,ho',hd',_⟩,_⟩:=I.loc
 rw [z,ho'] at ho;cases ho;rw [hd'] at hd;cases hd
theorem Inv.funs (I:Inv X pins σ H s):s.heap.FunFrames X.base X.outer:=by
 have all:∀(l:List Env),(∀b∈frs l,b∈X.fs)→X.s₀.heap.FunFrames X.base l→s.heap.FunFrames X.base l:=by
  intro l
  induction l with
  | nil=>intro _ _;trivial
  | cons env r ih=>
   intro hs hl
   obtain ⟨hk,⟨L,o,hf,hn,ho,hd⟩,hr⟩:=hl
   have hL:L∈X.fs:=hs L (by unfold frs;rw [List.filterMap_cons,hf];exact kJ)
   obtain ⟨sl,e⟩:=I.base.slot L o ho (I.ok.frf L hL) hL fun z=>I.ok.exfs L z hL
   exact ⟨hk,⟨L,_,hf,hn,e,hd⟩,ih (fun b hb=>hs b (by unfold frs;rw [List.filterMap_cons,hf];exact kK _ hb)) hr⟩
 exact all X.outer (fun _ hb=>hb) I.ok.funs
theorem Inv.stack (I:Inv X pins σ H s):s.heap.FunFrames X.base X.stack:=by
 rcases I.ok.stk with e | ⟨e,hf⟩
 ·rw [e];exact I.funs
 ·rw [e]
  obtain ⟨m,hn,_⟩:=I.loc
  refine .cons (by rw [I.ok.kind];decide) hf hn ?_ I.funs
  exact Heap.get?_none_of_le (km I.ok.bsz I.ok.above)
theorem Inv.stkSub (I:Inv X pins σ H s):∀b∈frs X.stack,b∈X.env.locals :: X.fs:=fun b hb=>by
 rcases I.ok.stk with e | ⟨e,hf⟩
 ·rw [e] at hb;exact kK _ hb
 ·rw [e] at hb
  unfold frs at hb
  rw [List.filterMap_cons,hf] at hb
  exact hb
theorem Inv.stkFree (I:Inv X pins σ H s):∀b∈frs X.stack,H b=none:=fun b hb=>by
 rcases kx.mp (I.stkSub b hb) with e | hb
 ·rw [e];exact I.free
 ·obtain ⟨_,o,ho,_⟩:=I.ok.funs.mem hb
  exact I.base.free b o ho (I.ok.frf b hb) fun z=>I.ok.exfs b z hb
theorem Inv.step {g':Array GenState} {t':Nat} {d':Drawn} {ch:List Addr} (I:Inv X pins σ H s)
  (hch:∀b∈ch,(b∈X.ex∨X.s₀.heap.objs.size≤b)∧b≠X.env.locals∧(∀x c,X.env.cells.lookup x=some c→c≠b)∧∀p∈X.pn++pins,p.1≠b)
  (keep:∀b o,b≠X.env.locals→b∉X.fs→b∉ch→s.heap.get? b=some o→H b=none→h'.get? b=some o)
  (slot:∀b o,b≠X.env.locals→b∈X.fs→b∉ch→s.heap.get? b=some o→H b=none→∃sl,h'.get? b=some { o with slots:=sl }) (free:∀b o,b∉ch→s.heap.get? b=some o→H b=none→H' b=none)
  (there:∀b o,b∉ch→s.heap.get? b=some o→∃o',h'.get? b=some o')
  (tups:∀b xs,H b=some (.tup xs)→H' b=some (.tup xs)) (frzs:∀b o u,H b=some (.frz o u)→H' b=some (.frz o u)) (tbls:∀b ps,H b=some (.tbl ps)→∃more,H' b=some (.tbl (ps++more)))
  (ns:∀m,s.heap.Ns X.env.locals m→h'.Ns X.env.locals m) (hok:HOk X.prog X.w H' h') (hg:AllBare g'):
  Inv X pins σ H' { s with heap:=h',gens:=g',drawn:=d',toks:=t' }:=by
 have neL:∀b o,X.s₀.heap.get? b=some o→b≠X.env.locals:=fun b o e=>Nat.ne_of_lt (kF (Heap.lt_size e) I.ok.above)
 have neC:∀b o,X.s₀.heap.get? b=some o→b∉X.ex→b∉ch:=fun b o e hx hb=>by
  rcases (hch b hb).1 with z | z
  ·exact hx z
  ·exact absurd (kF (Heap.lt_size e) z) (Nat.lt_irrefl _)
 have cellK:∀x c,X.env.cells.lookup x=some c→∀v,s.heap.IsCell c v→h'.IsCell c v:=fun x c e v ⟨o,ho,hd⟩=>by
  have nch:c∉ch:=fun z=>(hch c z).2.2.1 x c e rfl
  by_cases hc:c∈X.fs
  ·obtain ⟨sl,q⟩:=slot c o (I.cne x c e) hc nch ho (I.freeC x c e)
   exact ⟨_,q,hd⟩
  ·exact ⟨o,keep c o (I.cne x c e) hc nch ho (I.freeC x c e),hd⟩
 refine ⟨I.ok,I.os,hg,⟨fun b o e n hb hx=>?_,fun b o e n hb hx=>?_,fun b o e n hx=>?_,fun b o e hx=>?_,fun b xs e=>tups b xs (I.base.tups b xs e),fun b o xs e=>frzs b o xs (I.base.frzs b o xs e),fun b ps e=>?_⟩,?_,fun x c e=>?_,?_,fun x c e=>?_,fun p hp=>?_,hok,I.len⟩
 ·exact keep b o (neL b o e) hb (neC b o e hx) (I.base.keep b o e n hb hx) (I.base.free b o e n hx)
 ·obtain ⟨sl,e1⟩:=I.base.slot b o e n hb hx
  obtain ⟨sl',e2⟩:=slot b _ (neL b o e) hb (neC b o e hx) e1 (I.base.free b o e n hx)
  exact ⟨sl',e2⟩
 ·obtain ⟨o',e1⟩:=I.base.there b o e hx
  exact free b o' (neC b o e hx) e1 (I.base.free b o e n hx)
 ·obtain ⟨o',e1⟩:=I.base.there b o e hx
  exact there b o' (neC b o e hx) e1
 ·obtain ⟨m1,e1⟩:=I.base.tbls b ps e
  obtain ⟨m2,e2⟩:=tbls b _ e1
  exact ⟨m1++m2,by rw [e2,Array.append_assoc]⟩
 ·obtain ⟨m,hn,hl⟩:=I.loc
  refine ⟨m,ns m hn,fun i x v e1 e2 e3=>?_⟩
  obtain ⟨u,r,l⟩:=hl i x v e1 e2 e3
  refine ⟨u,r,?_⟩
  rcases l with l | ⟨k,c,e,z⟩
  ·exact .inl l
  ·exact .inr ⟨k,c,e,cellK x c e _ z⟩
 ·obtain ⟨v,z⟩:=I.cell x c e
  exact ⟨v,cellK x c e v z⟩
 ·obtain ⟨m,⟨o,_,_,ho,_⟩,_⟩:=I.loc
  exact free _ o (fun z=>(hch _ z).2.1 rfl) ho I.free
 ·obtain ⟨v,o,ho,hd⟩:=I.cell x c e
  exact free c o (fun z=>(hch c z).2.2.1 x c e rfl) ho (I.freeC x c e)
 ·obtain ⟨e,n,ne,nf,d⟩:=I.pin p hp
  have nch:p.1∉ch:=fun z=>(hch p.1 z).2.2.2 p hp rfl
  exact ⟨keep p.1 p.2 ne nf nch e n,free p.1 p.2 nch e n,ne,nf,d⟩
theorem Inv.un {t':Nat} (I:Inv X pins σ H s) (u:Un X.fs [] H H' s.heap h') (hok:HOk X.prog X.w H' h'):Inv X pins σ H' { s with heap:=h',toks:=t' }:=by
 obtain ⟨m,⟨o,es,ep,ho,r⟩,_⟩:=id I.loc
 obtain ⟨sl,hL⟩:=u.any ho I.free (by simp)
 exact I.step (g':=s.gens) (d':=s.drawn) (ch:=[]) (fun _ z=>nomatch z) (fun b o _ hb _ e n=>u.keep b o e n hb (by simp)) (fun b o _ hb _ e n=>u.slot b o e n hb (by simp)) (fun b o _ e n=>u.free b o e n (by simp)) (fun b o _ e=>u.there b o e (by simp)) u.tups u.frzs u.tbls (fun m' hm=>by
  obtain ⟨o',es',ep',ho',r'⟩:=hm
  rw [ho] at ho';cases ho'
  exact ⟨_,es',ep',hL,r'⟩) hok I.bare
theorem Inv.call {g':Array GenState} {t':Nat} {d':Drawn} {ch:List Addr} (I:Inv X pins σ H s) (u:Un (frs X.stack) ch H H' s.heap h') (hok:HOk X.prog X.w H' h') (hg:AllBare g')
  (hch:∀b∈ch,(b∈X.ex∨X.s₀.heap.objs.size≤b)∧b≠X.env.locals∧(∀x c,X.env.cells.lookup x=some c→c≠b)∧∀p∈X.pn++pins,p.1≠b):
  Inv X pins σ H' { s with heap:=h',gens:=g',drawn:=d',toks:=t' }:=by
 obtain ⟨m,⟨o,es,ep,ho,r⟩,_⟩:=id I.loc
 obtain ⟨sl,hL⟩:=u.any ho I.free fun z=>(hch _ z).2.1 rfl
 exact I.step (ch:=ch) hch (fun b o hL hb hc e n=>u.keep b o e n (fun z=>(kx.mp (I.stkSub b z)).elim hL hb) hc) (fun b o _ _ hc e n=>u.any e n hc) (fun b o hc e n=>u.free b o e n hc) (fun b o hc e=>u.there b o e hc) u.tups u.frzs u.tbls (fun m' hm=>by
  obtain ⟨o',es',ep',ho',r'⟩:=hm
  rw [ho] at ho';cases ho'
  exact ⟨_,es',ep',hL,r'⟩) hok hg
theorem Inv.turned {t':Nat} {it:Addr} (I:Inv X pins σ H s) (k:∀b o,b≠it→s.heap.get? b=some o→h'.get? b=some o) (hn:H it=none) (hL:it≠X.env.locals)
  (h1:it∈X.ex∨X.s₀.heap.objs.size≤it) (h2:∀x c,X.env.cells.lookup x=some c→c≠it) (h3:∀p∈X.pn++pins,p.1≠it):Inv X pins σ H { s with heap:=h',toks:=t' }:=by
 have nit:∀b u,H b=some u→b≠it:=fun b u e z=>by rw [z,hn] at e;cases e
 refine I.step (g':=s.gens) (d':=s.drawn) (ch:=[it]) (fun b hb=>?_) (fun b o _ _ hc e _=>k b o (fun z=>hc (by simp [z])) e) (fun b o _ _ hc e _=>⟨o.slots,k b o (fun z=>hc (by simp [z])) e⟩) (fun _ _ _ _ n=>n)
  (fun b o hc e=>⟨o,k b o (fun z=>hc (by simp [z])) e⟩) (fun _ _ e=>e) (fun _ _ _ e=>e) (fun b ps e=>⟨#[],by rw [e];simp⟩) (fun m hm=>?_) (fun b u e=>?_) I.bare
 ·have e:b=it:=by simpa using hb
  subst e
  exact ⟨h1,hL,h2,h3⟩
 ·obtain ⟨o,es,ep,ho,r⟩:=hm
  exact ⟨o,es,ep,k _ o (Ne.symm hL) ho,r⟩
 ·refine (I.hok b u e).stay (fun c v hc q=>k c v ?_ q) (fun _ q=>q) fun _ _ q=>q
  rcases hc with z | z
  ·rw [z];exact nit b u e
  ·exact nit c _ z
theorem Inv.tok (I:Inv X pins σ H s) (t:Nat):Inv X pins σ H { s with toks:=t }:=I.un (h':=s.heap) (t':=t) Un.refl I.hok
theorem Inv.kept {t':Nat} (I:Inv X pins σ H s) (k:∀b u,s.heap.get? b=some u→h'.get? b=some u):Inv X pins σ H { s with heap:=h',toks:=t' }:=I.un (Un.kept k) (I.hok.kept k)
theorem Inv.laid {a:Addr} {o:HO} {t':Nat} (I:Inv X pins σ H s) (k:∀b u,s.heap.get? b=some u→h'.get? b=some u) (hp:s.heap.objs.size≤a) (new:zN X.prog X.w (upd H a o) h' a o):
  Inv X pins σ (upd H a o) { s with heap:=h',toks:=t' }:=I.un (Un.laid k hp (I.hok.fresh hp)) (I.hok.laid k hp new)
theorem Inv.write {x e:Addr} {o:HO} {t':Nat} (I:Inv X pins σ H s) (mu:Mut (H x)) (he:e=x∨H e=some (.own x)) (k:∀b u,b≠e→s.heap.get? b=some u→h'.get? b=some u) (heo:∃u,h'.get? e=some u)
  (new:zN X.prog X.w (upd H x o) h' x o):Inv X pins σ (upd H x o) { s with heap:=h',toks:=t' }:=I.un (Un.write mu he k heo) (I.hok.write mu he k heo new)
theorem Inv.pins_of {pins':List (Addr × Obj)} (I:Inv X pins σ H s) (h:∀p∈pins',s.heap.get? p.1=some p.2∧H p.1=none∧p.1≠X.env.locals∧p.1∉X.fs∧∀v,p.2.data≠.cell v):Inv X pins' σ H s:=
 ⟨I.ok,I.os,I.bare,I.base,I.loc,I.cell,I.free,I.freeC,fun p hp=>(kL.mp hp).elim (fun z=>I.pin p (kH _ z)) (h p),I.hok,I.len⟩
theorem JH {N:List Str} (hN:N.Nodup) {i j:Nat} {x:Str} (a:N[i]?=some x) (b:N[j]?=some x):i=j:=by
 obtain ⟨h1,e1⟩:=kd.mp a
 obtain ⟨h2,e2⟩:=kd.mp b
 exact (List.getElem_inj hN).mp (e1.trans e2.symm)
theorem Qi {M:Model} {A:Around} {E:Value→Shared→Prop} {i:Nat} {x:Str} {v:V} {u:Value} {Q:Unit→Shared→Prop} (I:Inv X pins σ H s) (hN:X.N.Nodup) (hi:X.N[i]?=some x) (hx:Loc X.env.scope x) (r:RelV v u)
  (h:∀s',Inv X pins (σ.set i (some v)) H s'→(∃a,Heap.SameBut a s.heap s'.heap∧(a=X.env.locals∨X.env.cells.lookup x=some a))→Q () s') (hf:X.fn x=true∨X.env.scope.names.lookup x=some .local:=by first | exact .inl rfl | exact .inr rfl | assumption):wpAny M A (storeName X.env x u) Q E s:=by
 obtain ⟨m,hn,hl⟩:=id I.loc
 have hcls:(X.env.scope.kind == .class||(X.env.scope.kind == .module&&X.env.locals != X.env.globals))=false:=by rw [I.ok.kind];rfl
 have hiσ:i < σ.length:=by rw [I.len];exact (kd.mp hi).1
 have cne:=I.cne
 have tracked:∀{a:Addr} {h':Heap},(∃o,s.heap.get? a=some o∧H a=none)→Heap.SameBut a s.heap h'→HOk X.prog X.w H h':=fun {a h'} ha hs b ob e=>by
  obtain ⟨_,_,hfree⟩:=ha
  refine (I.hok b ob e).stay (fun c w' hc q=>(hs.2 c ?_).trans q) (fun _ q=>q) fun _ _ q=>q
  rintro rfl
  rcases hc with rfl | hc
  ·rw [hfree] at e;cases e
  ·rw [hfree] at hc;cases hc
 rcases hx with hk | hk
 ·refine wpAny_storeName_local hk hn (fun h' hn' hs=>?_) hcls
  obtain ⟨oL,_,_,hoL,_⟩:=id hn
  refine h _ ⟨I.ok,I.os,I.bare,⟨fun b o e n hb hx=>?_,fun b o e n hb hx=>?_,I.base.free,fun b o e hx=>?_,I.base.tups,I.base.frzs,I.base.tbls⟩,⟨_,hn',fun j y v' e1 e2 e3=>?_⟩,fun y c e=>?_,I.free,I.freeC,fun p hp=>?_,tracked ⟨oL,hoL,I.free⟩ hs,by simpa using I.len⟩ ⟨_,hs,.inl rfl⟩
  ·exact (hs.2 b (Nat.ne_of_lt (kF (Heap.lt_size e) I.ok.above))).trans (I.base.keep b o e n hb hx)
  ·obtain ⟨sl,e1⟩:=I.base.slot b o e n hb hx
   exact ⟨sl,(hs.2 b (Nat.ne_of_lt (kF (Heap.lt_size e) I.ok.above))).trans e1⟩
  ·obtain ⟨o',e1⟩:=I.base.there b o e hx
   exact ⟨o',(hs.2 b (Nat.ne_of_lt (kF (Heap.lt_size e) I.ok.above))).trans e1⟩
  ·by_cases hj:j=i
   ·subst hj
    rw [hi] at e1;cases e1
    rw [List.getElem?_set_self hiσ] at e2
    cases e2
    exact ⟨u,r,.inl ⟨hk,by simp⟩⟩
   ·rw [List.getElem?_set_ne (Ne.symm hj)] at e2
    obtain ⟨u',r',q⟩:=hl j y v' e1 e2 e3
    refine ⟨u',r',?_⟩
    rcases q with ⟨k,e⟩ | ⟨k,c,e,z⟩
    ·refine .inl ⟨k,?_⟩
     have:y≠x:=fun e=>hj (JH hN e1 (e▸hi))
     simp [this,e]
    ·exact .inr ⟨k,c,e,z.sameBut hs (cne y c e)⟩
  ·obtain ⟨w',z⟩:=I.cell y c e
   exact ⟨w',z.sameBut hs (cne y c e)⟩
  ·obtain ⟨e,n,ne,nf,d⟩:=I.pin p hp
   exact ⟨(hs.2 p.1 ne).trans e,n,ne,nf,d⟩
 ·have hfn:X.fn x=true:=by
   rcases hf with z | z
   ·exact z
   ·rw [z] at hk;cases hk
  obtain ⟨c,hc⟩:=I.ok.has x (.inl hk)
  obtain ⟨w',z⟩:=I.cell x c hc
  refine wpAny_storeName_cell I.ok.kind hk hc z (fun h' hc' hs=>?_)
  obtain ⟨oc,hoc,hocd⟩:=id z
  refine h { s with heap:=h' } ⟨I.ok,I.os,I.bare,⟨fun b o e n hb hx=>?_,fun b o e n hb hx=>?_,I.base.free,fun b o e hx=>?_,I.base.tups,I.base.frzs,I.base.tbls⟩,⟨m,hn.sameBut hs (Ne.symm (cne x c hc)),fun j y v' e1 e2 e3=>?_⟩,fun y c' e=>?_,I.free,I.freeC,fun p hp=>?_,tracked ⟨oc,hoc,I.freeC x c hc⟩ hs,by simpa using I.len⟩ ⟨c,hs,.inr hc⟩
  ·exact (hs.2 b (Nat.ne_of_lt (kF (Heap.lt_size e) (I.ok.cab x c hfn hc)))).trans (I.base.keep b o e n hb hx)
  ·obtain ⟨sl,e1⟩:=I.base.slot b o e n hb hx
   exact ⟨sl,(hs.2 b (Nat.ne_of_lt (kF (Heap.lt_size e) (I.ok.cab x c hfn hc)))).trans e1⟩
  ·obtain ⟨o',e1⟩:=I.base.there b o e hx
   exact ⟨o',(hs.2 b (Nat.ne_of_lt (kF (Heap.lt_size e) (I.ok.cab x c hfn hc)))).trans e1⟩
  ·by_cases hj:j=i
   ·subst hj
    rw [hi] at e1;cases e1
    rw [List.getElem?_set_self hiσ] at e2
    cases e2
    exact ⟨u,r,.inr ⟨.inl hk,c,hc,hc'⟩⟩
   ·rw [List.getElem?_set_ne (Ne.symm hj)] at e2
    obtain ⟨u',r',q⟩:=hl j y v' e1 e2 e3
    refine ⟨u',r',?_⟩
    rcases q with q | ⟨k,c',e,z'⟩
    ·exact .inl q
    ·refine .inr ⟨k,c',e,z'.sameBut hs ?_⟩
     rintro rfl
     exact hj (JH hN e1 (I.ok.inj _ _ _ e hc▸hi))
  ·by_cases hcc:c'=c
   ·subst hcc;exact ⟨_,hc'⟩
   ·obtain ⟨w2,z2⟩:=I.cell y c' e
    exact ⟨w2,z2.sameBut hs hcc⟩
  ·obtain ⟨e,n,ne,nf,d⟩:=I.pin p hp
   refine ⟨(hs.2 p.1 ?_).trans e,n,ne,nf,d⟩
   intro q
   rw [q,hoc] at e
   have q':oc=p.2:=ku e
   exact d w' (by rw [←q'];exact hocd)
theorem Z0 {M:Model} {A:Around} {E:Value→Shared→Prop} {i:Nat} {x:Str} {v:V} {u:Value} {Q:Unit→Shared→Prop} (I:Inv X pins σ H s) (hN:X.N.Nodup) (hi:X.N[i]?=some x) (hx:Loc X.env.scope x) (r:RelV v u)
  (h:∀s',Inv X pins (σ.set i (some v)) H s'→Q () s') (hf:X.fn x=true∨X.env.scope.names.lookup x=some .local:=by first | exact .inl rfl | exact .inr rfl | assumption):wpAny M A (storeName X.env x u) Q E s:=
 Qi I hN hi hx r (fun s' I' _=>h s' I') hf
theorem Inv.call' {s':Shared} {ch:List Addr} (I:Inv X pins σ H s) (ho:s'.os=s.os) (u:Un (frs X.stack) ch H H' s.heap s'.heap) (hok:HOk X.prog X.w H' s'.heap) (hg:AllBare s'.gens)
  (hch:∀b∈ch,(b∈X.ex∨X.s₀.heap.objs.size≤b)∧b≠X.env.locals∧(∀x c,X.env.cells.lookup x=some c→c≠b)∧∀p∈X.pn++pins,p.1≠b):Inv X pins σ H' s':=by
 obtain ⟨h',g',d',t',o'⟩:=s'
 have e:o'=s.os:=ho
 subst e
 exact I.call (g':=g') (t':=t') (d':=d') u hok hg hch
end
abbrev XK:=Value→Option Addr→Hp→Prop
abbrev St:=List (Option V)
abbrev VK:=V→Hp→Prop
abbrev TE:=St→Hp→VK→Prop
abbrev TT:=St→Hp→(Bool→Hp→Prop)→Prop
abbrev TA:=St→Hp→(List V→Hp→Prop)→Prop
structure Ends where
 nx:St→Hp→Prop
 rt:VK
 bk:St→Hp→Prop:=fun _ _=>False
 ct:St→Hp→Prop:=fun _ _=>False
abbrev TS:=Ends→St→Hp→Prop
def EP (X:Cx) (pins:List (Addr × Obj)) (σ:St) (Q:VK) (u:Value) (s':Shared):Prop:=∃v H',Inv X pins σ H' s'∧RelV v u∧Q v H'
def TP (X:Cx) (pins:List (Addr × Obj)) (σ:St) (Q:Bool→Hp→Prop) (b:Bool) (s':Shared):Prop:=∃H',Inv X pins σ H' s'∧Q b H'
def AP (X:Cx) (pins:List (Addr × Obj)) (σ:St) (Q:List V→Hp→Prop) (us:List Value) (s':Shared):Prop:=∃vs H',Inv X pins σ H' s'∧Vals vs us∧Q vs H'
def SP (X:Cx) (pins:List (Addr × Obj)) (D:Ends) (f:Flow) (s':Shared):Prop:=
 match f with
 | .next=>∃σ' H',Inv X pins σ' H' s'∧D.nx σ' H'
 | .brk=>∃σ' H',Inv X pins σ' H' s'∧D.bk σ' H'
 | .cont=>∃σ' H',Inv X pins σ' H' s'∧D.ct σ' H'
 | .ret u=>∃v σ' H',Inv X pins σ' H' s'∧RelV v u∧D.rt v H'
def PE (X:Cx) (e:Expr) (t:TE):Prop:=
 ∀(pins:List (Addr × Obj)) (s:Shared) (σ:St) (H:Hp) (Q:VK),Inv X pins σ H s→t σ H Q→wpAny (model X.prog X.w) X.A (eval e X.env) (EP X pins σ Q) X.xe s
def PT (X:Cx) (e:Expr) (t:TT):Prop:=
 ∀(pins:List (Addr × Obj)) (s:Shared) (σ:St) (H:Hp) (Q:Bool→Hp→Prop),Inv X pins σ H s→t σ H Q→wpAny (model X.prog X.w) X.A (isTrue e X.env (eval e X.env)) (TP X pins σ Q) X.xe s
def PW (X:Cx) (e:Expr) (t:TT):Prop:=
 ∀(whole:Sem Value) (pins:List (Addr × Obj)) (s:Shared) (σ:St) (H:Hp) (Q:Bool→Hp→Prop),Inv X pins σ H s→t σ H Q→wpAny (model X.prog X.w) X.A (isTrue e X.env whole) (TP X pins σ Q) X.xe s
theorem PW.pt {X:Cx} {e:Expr} {t:TT} (h:PW X e t):PT X e t:=h _
def PA (X:Cx) (es:List Expr) (t:TA):Prop:=
 ∀(pos:Pos) (pins:List (Addr × Obj)) (s:Shared) (σ:St) (H:Hp) (Q:List V→Hp→Prop),Inv X pins σ H s→t σ H Q→wpAny (model X.prog X.w) X.A (spliced (backTo pos (starEach es X.env))) (AP X pins σ Q) X.xe s
def PS (X:Cx) (st:Stmt) (t:TS):Prop:=
 ∀(pins:List (Addr × Obj)) (s:Shared) (σ:St) (H:Hp) (D:Ends),Inv X pins σ H s→t D σ H→wpAny (model X.prog X.w) X.A (exec st X.env) (SP X pins D) X.xe s
def PSs (X:Cx) (st:List Stmt) (t:TS):Prop:=
 ∀(pins:List (Addr × Obj)) (s:Shared) (σ:St) (H:Hp) (D:Ends),Inv X pins σ H s→t D σ H→wpAny (model X.prog X.w) X.A (execs st X.env) (SP X pins D) X.xe s
theorem thn {α:Type} {t:Sem α} {Q Q':α→Shared→Prop} {M:Model} {A:Around} {E:Value→Shared→Prop} {s:Shared} (h:wpAny M A t Q E s) (hQ:∀a s,Q a s→Q' a s):wpAny M A t Q' E s:=wpAny_mono h hQ fun _ _ x=>x
end L2
namespace L2
open PySem PySem.Spec PyProof.Rows
section
variable {X:Cx}
def tVar (i:Nat):TE:=fun σ H Q=>∃v,σ[i]?=some (some v)∧Q v H
abbrev tC (v:V):TE:=fun _ H Q=>Q v H
theorem z4J {i:Nat} {x:Str} {pos:Pos} (hN:X.N[i]?=some x) (hv:Vis X.env.scope x) (hd:autoParam ((x == ("__debug__":Str))=false) aR._auto_2) (hcd:autoParam ((x == ("__classdict__":Str))=false) aR._auto_2):PE X (.Name x pos) (tVar i):=by
 intro pins s σ H Q I h
 obtain ⟨v,e,h⟩:=h
 obtain ⟨m,hn,hl⟩:=I.loc
 obtain ⟨u,r,l⟩:=hl i x v hN e hv
 have fin:EP X pins σ Q u s:=⟨v,H,I,r,h⟩
 rcases l with ⟨hk,hm⟩ | ⟨hk,c,hc,hcell⟩
 ·exact wpAny_Name (wpAny_loadName_local I.ok.kind hk hn hm fin) hd
 ·rcases hk with hk | hk
  ·exact wpAny_Name (wpAny_loadName_cell I.ok.kind hk hc hcell fin) hd
  ·exact wpAny_Name (wpAny_loadName_free I.ok.kind hk hc hcell fin hcd) hd
theorem zf {i j pos}:PE X (.Constant (.int i) j pos) (tC (.int i)):=fun _ _ _ H _ I h=>wpAny_Constant_int ⟨.int i,H,I.tok _,⟨_,rfl⟩,h⟩
theorem jI {b j pos}:PE X (.Constant (.bool b) j pos) (tC (.bl b)):=fun _ _ _ H _ I h=>Constant_bool ⟨.bl b,H,I,rfl,h⟩
theorem qA {j pos}:PE X (.Constant .none j pos) (tC .non):=fun _ _ _ H _ I h=>Constant_none ⟨.non,H,I,rfl,h⟩
theorem zY {x j pos}:PE X (.Constant (.str x) j pos) (tC (.str x)):=fun _ _ _ H _ I h=>Calls.Constant_str ⟨.str x,H,I.tok _,⟨_,rfl⟩,h⟩
def Gl (X:Cx) (x:Str):Prop:=X.env.kindOf x=some .globalImplicit
theorem Zo {E:Value→Shared→Prop} {pins:List (Addr × Obj)} {s:Shared} {σ:St} {H:Hp} {x:Str} {u:Value} {pos:Pos} {Q:Value→Shared→Prop} (I:Inv X pins σ H s) (hg:Gl X x) (hm:X.mg x=some u) (h:Q u s)
  (hd:autoParam ((x == ("__debug__":Str))=false) aR._auto_2):wpAny (model X.prog X.w) X.A (eval (.Name x pos) X.env) Q E s:=
 Calls.Name_function_global I.ok.kind hg (Calls.loadGlobal_global (by rw [I.ok.glob];exact I.mod.glob.keeps I.bk) hm h) hd
theorem jP {E:Value→Shared→Prop} {pins:List (Addr × Obj)} {s:Shared} {σ:St} {H:Hp} {x:Str} {u:Value} {pos:Pos} {Q:Value→Shared→Prop} (I:Inv X pins σ H s) (hg:Gl X x) (hm:X.mg x=none) (hv:bootBuiltins x=some u) (h:Q u s)
  (hn:autoParam (x≠"__name__") aR._auto_2) (hd:autoParam ((x == ("__debug__":Str))=false) aR._auto_2):wpAny (model X.prog X.w) X.A (eval (.Name x pos) X.env) Q E s:=by
 obtain ⟨mb,h1,h2⟩:=I.mod.blt
 exact Calls.Name_function_global I.ok.kind hg (Calls.loadGlobal_builtin (by rw [I.ok.glob];exact I.mod.glob.keeps I.bk) hm (by rw [I.ok.blt];exact h1.keeps I.bk) ((h2 x hn).trans hv) h) hd
theorem jH {x:Str} {v:V} {u:Value} {pos:Pos} (hg:Gl X x) (hm:X.mg x=some u) (r:RelV v u) (hd:autoParam ((x == ("__debug__":Str))=false) aR._auto_2):PE X (.Name x pos) (tC v):=
 fun _ _ _ H _ I h=>Zo I hg hm ⟨v,H,I,r,h⟩ hd
theorem z3P {x:Str} {v:V} {u:Value} {pos:Pos} (hg:Gl X x) (hm:X.mg x=none) (hv:bootBuiltins x=some u) (r:RelV v u) (hn:autoParam (x≠"__name__") aR._auto_2) (hd:autoParam ((x == ("__debug__":Str))=false) aR._auto_2):PE X (.Name x pos) (tC v):=
 fun _ _ _ H _ I h=>jP I hg hm hv ⟨v,H,I,r,h⟩ hn hd
variable {a b:Expr} {ta tb:TE} {pos:Pos}
def PC (X:Cx) (op:CmpOp) (a b:Expr) (t:TE):Prop:=
 ∀(pins:List (Addr × Obj)) (s:Shared) (σ:St) (H:Hp) (Q:VK),Inv X pins σ H s→t σ H Q→
  wpAny (model X.prog X.w) X.A (eval a X.env) (fun v s₁=>wpAny (model X.prog X.w) X.A (eval b X.env) (fun u s₂=>wpAny (model X.prog X.w) X.A (compareOp op v u) (EP X pins σ Q) X.xe s₂) X.xe s₁) X.xe s
def tB (t:TE):TT:=fun σ H Q=>t σ H fun x H1=>∃c,x=.bl c∧Q c H1
theorem z3l {op:CmpOp} {t:TE} (h:PC X op a b t) (h1:behindInMarks op b=false:=by first | exact nobehind _ (by decide) (by decide) | rfl):PE X (.Compare a [op] [b] pos) t:=fun pins s σ H Q I hw=>wpAny_Compare1 (h pins s σ H Q I hw) h1
theorem qY {e:Expr} {t:TE} (h:PE X e t) (he:∀whole,isTrue e X.env whole=(do let v ←whole;standAt e.pos;holding [v] (truthy v)):=by intro _;rfl):PT X e (tB t):=by
 intro pins s σ H Q I hw
 refine isTrue_plain (thn (h pins s σ H _ I hw) fun v s1 ⟨x,H1,I1,r1,q1⟩=>?_) (he _)
 obtain ⟨d,rfl,q⟩:=q1
 cases r1
 exact wpAny_truthy_bool ⟨H1,I1,q⟩
variable {tA tB':TT} {rest:List Expr}
def tAnd (t u:TT):TT:=fun σ H Q=>t σ H fun c H1=>if c=true then u σ H1 Q else Q false H1
def tOr (t u:TT):TT:=fun σ H Q=>t σ H fun c H1=>if c=true then Q true H1 else u σ H1 Q
def tNot (t:TT):TT:=fun σ H Q=>t σ H fun c H1=>Q (!c) H1
theorem ZT (ha:PT X a tA):PW X (.BoolOp .And [a] pos) tA:=by
 intro wh pins s σ H Q I h
 refine isTrue_and (thn (ha pins s σ H Q I h) fun c s1 e=>?_)
 cases c with
 | true=>exact isTrue_and_nil e
 | false=>exact e
theorem Zg (ha:PT X a tA):PW X (.BoolOp .Or [a] pos) tA:=by
 intro wh pins s σ H Q I h
 refine isTrue_or (thn (ha pins s σ H Q I h) fun c s1 e=>?_)
 cases c with
 | false=>exact isTrue_or_nil e
 | true=>exact e
theorem Jy (ha:PT X a tA) (hb:PW X (.BoolOp .And (b :: rest) pos) tB'):PW X (.BoolOp .And (a :: b :: rest) pos) (tAnd tA tB'):=by
 intro wh pins s σ H Q I h
 refine isTrue_and (thn (ha pins s σ H _ I h) fun c s1 zz=>?_)
 obtain ⟨H1,I1,q1⟩:=zz
 cases c with
 | true=>exact hb wh pins s1 σ H1 Q I1 q1
 | false=>exact ⟨H1,I1,q1⟩
theorem Qn (ha:PT X a tA) (hb:PW X (.BoolOp .Or (b :: rest) pos) tB'):PW X (.BoolOp .Or (a :: b :: rest) pos) (tOr tA tB'):=by
 intro wh pins s σ H Q I h
 refine isTrue_or (thn (ha pins s σ H _ I h) fun c s1 zz=>?_)
 obtain ⟨H1,I1,q1⟩:=zz
 cases c with
 | true=>exact ⟨H1,I1,q1⟩
 | false=>exact hb wh pins s1 σ H1 Q I1 q1
theorem Zh (ha:PT X a tA):PT X (.UnaryOp .Not a pos) (tNot tA):=by
 intro pins s σ H Q I h
 exact isTrue_not (ha pins s σ H (fun c H1=>Q (!c) H1) I h)
def z5r (ta tb:TE):TE:=fun σ H Q=>ta σ H fun x H1=>∃c,x=.bl c∧if c=true then tb σ H1 Q else Q (.bl false) H1
def tOrV (ta tb:TE):TE:=fun σ H Q=>ta σ H fun x H1=>∃c,x=.bl c∧if c=true then Q (.bl true) H1 else tb σ H1 Q
def z5l (ta:TE):TE:=fun σ H Q=>ta σ H fun x H1=>∃c,x=.bl c∧Q (.bl (!c)) H1
theorem j5 {op} {t:TE} (h:PE X a t):PE X (.BoolOp op [a] pos) t:=fun pins s σ H Q I hw=>BoolOp_one (h pins s σ H Q I hw)
theorem qR (ha:PE X a ta) (hb:PE X (.BoolOp .And (b :: rest) pos) tb):PE X (.BoolOp .And (a :: b :: rest) pos) (z5r ta tb):=by
 intro pins s σ H Q I h
 refine BoolOp_and (thn (ha pins s σ H _ I h) fun v s1 zz=>?_)
 obtain ⟨x,H1,I1,r1,q1⟩:=zz
 obtain ⟨c,rfl,q1⟩:=q1
 cases r1
 refine wpAny_truthy_bool ?_
 cases c with
 | true=>exact hb pins s1 σ H1 Q I1 q1
 | false=>exact ⟨.bl false,H1,I1,rfl,q1⟩
theorem z4K (ha:PE X a ta) (hb:PE X (.BoolOp .Or (b :: rest) pos) tb):PE X (.BoolOp .Or (a :: b :: rest) pos) (tOrV ta tb):=by
 intro pins s σ H Q I h
 refine BoolOp_or (thn (ha pins s σ H _ I h) fun v s1 zz=>?_)
 obtain ⟨x,H1,I1,r1,q1⟩:=zz
 obtain ⟨c,rfl,q1⟩:=q1
 cases r1
 refine wpAny_truthy_bool ?_
 cases c with
 | false=>exact hb pins s1 σ H1 Q I1 q1
 | true=>exact ⟨.bl true,H1,I1,rfl,q1⟩
theorem z4L (ha:PE X a ta):PE X (.UnaryOp .Not a pos) (z5l ta):=by
 intro pins s σ H Q I h
 refine UnaryOp_ (thn (ha pins s σ H _ I h) fun v s1 zz=>?_)
 obtain ⟨x,H1,I1,r1,q1⟩:=zz
 obtain ⟨c,rfl,q1⟩:=q1
 cases r1
 exact not_of (wpAny_truthy_bool ⟨.bl (!c),H1,I1,rfl,q1⟩)
def tIf (t:TT) (ta tb:TE):TE:=fun σ H Q=>t σ H fun c H1=>if c=true then ta σ H1 Q else tb σ H1 Q
theorem js {c:Expr} (hc:PT X c tA) (ha:PE X a ta) (hb:PE X b tb):PE X (.IfExp c a b pos) (tIf tA ta tb):=by
 intro pins s σ H Q I h
 refine wpAny_IfExp (thn (hc pins s σ H _ I h) fun d s1 zz=>?_)
 obtain ⟨H1,I1,q1⟩:=zz
 cases d with
 | true=>exact ha pins s1 σ H1 Q I1 q1
 | false=>exact hb pins s1 σ H1 Q I1 q1
end
end L2
namespace L2
open PySem PySem.Spec PyProof.Rows
def SqL (K:ko) (H:Hp) (a:Addr) (xs:List V):Prop:=
 Rd H a (.lst xs)∨
  ∃(o:Obj) (its:Array Value) (n:Nat),K.lookup a=some o∧o.cls=.type "list"∧o.dict=none∧o.data=.seq its n∧its.size≤sizeLine∧Vals xs its.toList
def SqT (K:ko) (H:Hp) (a:Addr) (xs:List V):Prop:=
 Rd H a (.tup xs)∨
  ∃(o:Obj) (its:Array Value) (n:Nat),K.lookup a=some o∧o.cls=.type "tuple"∧o.data=.seq its n∧its.size≤sizeLine∧Vals xs its.toList
noncomputable def absV:Value→Option V
 | .none=>some .non
 | .bool b=>some (.bl b)
 | .int i _=>some (.int i)
 | .str x _=>some (.str x)
 | .bytes b _=>some (.byt b)
 | .float b _=>some (.flt b)
 | .ref a=>some (.ref a)
 | .type n=>some (.ty n)
 | _=>none
theorem RelV.abs {x:V} {u:Value} (r:RelV x u):absV u=some x:=by
 cases x with
 | non=>cases r;rfl
 | bl _=>cases r;rfl
 | int _=>obtain ⟨t,rfl⟩:=r;rfl
 | str _=>obtain ⟨t,rfl⟩:=r;rfl
 | byt _=>obtain ⟨t,rfl⟩:=r;rfl
 | flt _=>obtain ⟨t,rfl⟩:=r;rfl
 | ref _=>cases r;rfl
 | ty _=>cases r;rfl
theorem RelV.inj {x y:V} {u:Value} (r:RelV x u) (q:RelV y u):x=y:=ku (r.abs.symm.trans q.abs)
theorem Vals.inj:∀{xs ys:List V} {us:List Value},Vals xs us→Vals ys us→xs=ys
 | _,_,_,.nil,.nil=>rfl
 | _,_,_,.cons r t,.cons r' t'=>by rw [r.inj r',Vals.inj t t']
section
variable {X:Cx} {pins:List (Addr × Obj)} {σ:St} {H:Hp} {s:Shared} {a:Addr} {xs ys:List V}
theorem SqL.of {K:ko} (h:H a=some (.lst xs)):SqL K H a xs:=.inl (.inl h)
theorem SqT.of {K:ko} (h:H a=some (.tup xs)):SqT K H a xs:=.inl (.inl h)
theorem Inv.list (I:Inv X pins σ H s) (h:SqL X.K H a xs):∃its:List Value,Vals xs its∧PlainL s.heap a its.toArray∧xs.length≤sizeLine:=by
 rcases h with h | ⟨o,its,n,hk,hc,hd,hs,hz,r⟩
 ·obtain ⟨z,its,n,r,e⟩:=h.ok I.hok
  exact ⟨its,r,⟨_,n,e,rfl,rfl,rfl⟩,z⟩
 ·refine ⟨its.toList,r,⟨o,n,I.kIn a o hk,hc,hd,by simpa using hs⟩,?_⟩
  have e:=r.length
  simp only [Array.length_toList] at e
  lia
theorem Inv.tuple (I:Inv X pins σ H s) (h:SqT X.K H a xs):∃its:List Value,Vals xs its∧IsTup s.heap a its.toArray∧xs.length≤sizeLine:=by
 rcases h with h | ⟨o,its,n,hk,hc,hs,hz,r⟩
 ·obtain ⟨z,its,r,p⟩:=h.ok I.hok
  exact ⟨its,r,p,z⟩
 ·refine ⟨its.toList,r,⟨o,I.kIn a o hk,hc,n,by simpa using hs⟩,?_⟩
  have e:=r.length
  simp only [Array.length_toList] at e
  lia
theorem Inv.list_inj (I:Inv X pins σ H s) (h:SqL X.K H a xs) (h':SqL X.K H a ys):xs=ys:=by
 obtain ⟨its,r,⟨o,n,e,_,_,d⟩,_⟩:=I.list h
 obtain ⟨its',r',⟨o',n',e',_,_,d'⟩,_⟩:=I.list h'
 rw [e] at e';cases e'
 rw [d] at d'
 injection d' with d1 _
 have:its=its':=by simpa using congrArg Array.toList d1
 subst this
 exact r.inj r'
end
noncomputable abbrev Cx.wish (X:Cx) (E:Value→Shared→Prop):Cx:={ X with xe:=E }
noncomputable abbrev Cx.nox (X:Cx):Cx:=X.wish fun _ _=>False
theorem Cx.Ok.wish {X:Cx} (ok:X.Ok) (E:Value→Shared→Prop):(X.wish E).Ok:=
 ⟨ok.mod,ok.kind,ok.glob,ok.blt,ok.above,ok.inj,ok.has,ok.cab,ok.hd,ok.frames,ok.stk,ok.exf,ok.bs,ok.bsz,ok.noex,ok.exfs,ok.funs,ok.frf⟩
theorem Cx.Ok.unwish {X:Cx} {E:Value→Shared→Prop} (ok:(X.wish E).Ok):X.Ok:=
 ⟨ok.mod,ok.kind,ok.glob,ok.blt,ok.above,ok.inj,ok.has,ok.cab,ok.hd,ok.frames,ok.stk,ok.exf,ok.bs,ok.bsz,ok.noex,ok.exfs,ok.funs,ok.frf⟩
section
variable {X:Cx} {pins:List (Addr × Obj)} {σ:St} {H:Hp} {s:Shared} {E:Value→Shared→Prop}
theorem Inv.wish (I:Inv X pins σ H s) (E:Value→Shared→Prop):Inv (X.wish E) pins σ H s:=⟨I.ok.wish E,I.os,I.bare,I.base,I.loc,I.cell,I.free,I.freeC,I.pin,I.hok,I.len⟩
theorem Inv.unwish (I:Inv (X.wish E) pins σ H s):Inv X pins σ H s:=⟨I.ok.unwish,I.os,I.bare,I.base,I.loc,I.cell,I.free,I.freeC,I.pin,I.hok,I.len⟩
theorem SP.unwish {D:Ends} {f:Flow} {s':Shared} (h:SP (X.wish E) pins D f s'):SP X pins D f s':=by
 cases f with
 | next=>obtain ⟨σ',H',I,q⟩:=h;exact ⟨σ',H',I.unwish,q⟩
 | brk=>obtain ⟨σ',H',I,q⟩:=h;exact ⟨σ',H',I.unwish,q⟩
 | cont=>obtain ⟨σ',H',I,q⟩:=h;exact ⟨σ',H',I.unwish,q⟩
 | ret u=>obtain ⟨v,σ',H',I,r,q⟩:=h;exact ⟨v,σ',H',I.unwish,r,q⟩
theorem PSs.nox {st:List Stmt} {t:TS} (h:PSs X.nox st t):PSs X st t:=fun pins s σ H D I hw=>
 wpAny_mono (h pins s σ H D (I.wish _) hw) (fun _ _ q=>q.unwish) fun _ _ z=>False.elim z
end
section
variable {X:Cx} {st:Stmt} {rest:List Stmt} {t u:TS} {e:Expr} {te:TE} {pos:Pos}
def z5m:TS:=fun D σ H=>D.nx σ H
def tSeq (t u:TS):TS:=fun D σ H=>t { D with nx:=u D } σ H
theorem zA:PSs X [] z5m:=fun _ _ σ H _ I h=>wpAny_execs_nil ⟨σ,H,I,h⟩
theorem zb (h1:PS X st t) (h2:PSs X rest u):PSs X (st :: rest) (tSeq t u):=by
 intro pins s σ H D I h
 refine wpAny_execs_cons (thn (h1 pins s σ H { D with nx:=u D } I h) fun f s1 q=>?_)
 cases f with
 | next=>
  obtain ⟨σ',H',I',q⟩:=q
  exact h2 pins s1 σ' H' D I' q
 | ret v=>exact q
 | brk=>exact q
 | cont=>exact q
theorem ze (h1:PS X st t):PSs X [st] t:=by
 intro pins s σ H D I h
 refine wpAny_execs_cons (thn (h1 pins s σ H D I h) fun f s1 q=>?_)
 cases f with
 | next=>exact wpAny_execs_nil q
 | ret v=>exact q
 | brk=>exact q
 | cont=>exact q
theorem Inv.quiet {pins:List (Addr × Obj)} {σ:St} {H:Hp} {s:Shared} (I:Inv X pins σ H s):interactive X.env=false:=by simp [interactive,I.ok.kind]
def z5o (te:TE):TS:=fun D σ H=>te σ H fun _ H1=>D.nx σ H1
theorem zQ (he:PE X e te) (hs:autoParam (swapsWith e none pos.line X.env=pure false) aR._auto_1):PS X (.Expr e pos) (z5o te):=by
 intro pins s σ H D I h
 exact wpAny_Expr_any (thn (he pins s σ H _ I h) fun v s1 ⟨x,H1,I1,r1,q1⟩=>⟨σ,H1,I1,q1⟩) I.quiet hs
def tRet (te:TE):TS:=fun D σ H=>te σ H D.rt
theorem zi (he:PE X e te):PS X (.Return (some e) pos) (tRet te):=by
 intro pins s σ H D I h
 exact wpAny_Return_some (thn (he pins s σ H _ I h) fun v s1 ⟨x,H1,I1,r1,q1⟩=>⟨x,σ,H1,I1,r1,q1⟩)
def tIfS (c:TT) (t u:TS):TS:=fun D σ H=>c σ H fun b H1=>if b=true then t D σ H1 else u D σ H1
theorem qc {c:Expr} {a b:List Stmt} {tc:TT} (hc:PT X c tc) (ha:PSs X a t) (hb:PSs X b u):PS X (.If c a b pos) (tIfS tc t u):=by
 intro pins s σ H D I h
 refine wpAny_If (thn (hc pins s σ H _ I h) fun d s1 zz=>?_)
 obtain ⟨H1,I1,q1⟩:=zz
 cases d with
 | true=>exact ha pins s1 σ H1 D I1 q1
 | false=>exact hb pins s1 σ H1 D I1 q1
def z36:TS:=fun _ _ _=>False
theorem z2h:PS X st z36:=fun _ _ _ _ _ _ h=>h.elim
theorem qZ {sts:List Stmt}:PSs X sts z36:=fun _ _ _ _ _ _ h=>h.elim
end
abbrev TG:=V→St→Hp→(St→Hp→Prop)→Prop
abbrev TGs:=List V→St→Hp→(St→Hp→Prop)→Prop
def PG (X:Cx) (target:Expr) (t:TG):Prop:=
 ∀(pins:List (Addr × Obj)) (s:Shared) (σ:St) (H:Hp) (v:V) (u:Value) (Q:St→Hp→Prop),Inv X pins σ H s→RelV v u→t v σ H Q→
  wpAny (model X.prog X.w) X.A (assign target X.env u) (fun _ s'=>∃σ' H',Inv X pins σ' H' s'∧Q σ' H') X.xe s
def PGs (X:Cx) (ts:List Expr) (t:TGs):Prop:=
 ∀(pins:List (Addr × Obj)) (s:Shared) (σ:St) (H:Hp) (vs:List V) (us:List Value) (Q:St→Hp→Prop),Inv X pins σ H s→Vals vs us→t vs σ H Q→
  wpAny (model X.prog X.w) X.A (assignInOrder ((assignEach ts X.env).map (·.2)) us) (fun _ s'=>∃σ' H',Inv X pins σ' H' s'∧Q σ' H') X.xe s
abbrev TSet:=V→V→V→Hp→(Hp→Prop)→Prop
def PSet (X:Cx) (t:TSet):Prop:=
 ∀(pins:List (Addr × Obj)) (s:Shared) (σ:St) (H:Hp) (o i v:V) (ov iv u:Value) (Q:Hp→Prop),Inv X pins σ H s→RelV o ov→RelV i iv→RelV v u→t o i v H Q→
  wpAny (model X.prog X.w) X.A (setItem ov iv u) (fun _ s'=>∃H',Inv X pins σ H' s'∧Q H') X.xe s
section
variable {X:Cx} {pos:Pos}
def Qa (i:Nat):TG:=fun v σ H Q=>Q (σ.set i (some v)) H
theorem zm {i:Nat} {x:Str} (hN:X.N.Nodup) (hi:X.N[i]?=some x) (hx:Loc X.env.scope x) (hf:X.fn x=true∨X.env.scope.names.lookup x=some .local:=by first | exact .inl rfl | exact .inr rfl | assumption):PG X (.Name x pos) (Qa i):=by
 intro pins s σ H v u Q I r h
 exact wpAny_assign_Name (Z0 I hN hi hx r (fun s' I'=>⟨_,H,I',h⟩) hf)
def gNil:TGs:=fun vs σ H Q=>vs=[]∧Q σ H
def z5J (t:TG) (u:TGs):TGs:=fun vs σ H Q=>∃v r,vs=v :: r∧t v σ H fun σ' H'=>u r σ' H' Q
theorem qp:PGs X [] gNil:=by
 intro pins s σ H vs us Q I r h
 obtain ⟨e,h⟩:=h
 subst e
 cases r
 exact assignInOrder_nil ⟨σ,H,I,h⟩
theorem zr {e:Expr} {es:List Expr} {t:TG} {u:TGs} (h1:PG X e t) (h2:PGs X es u)
  (hs:autoParam ((assignEach (e :: es) X.env).map (·.2)=assign e X.env :: (assignEach es X.env).map (·.2)) aR._auto_1):PGs X (e :: es) (z5J t u):=by
 intro pins s σ H vs us Q I r h
 obtain ⟨v,vr,e1,h⟩:=h
 subst e1
 cases r with
 | cons r rr=>
  rw [hs]
  refine assignInOrder_cons (thn (h1 pins s σ H _ _ _ I r h) fun _ s1 zz=>?_)
  obtain ⟨σ1,H1,I1,q1⟩:=zz
  exact h2 pins s1 σ1 H1 _ _ Q I1 rr q1
def gTup (K:ko) (n:Nat) (t:TGs):TG:=fun v σ H Q=>∃a xs,v=.ref a∧SqT K H a xs∧xs.length=n∧t xs σ H Q
theorem jr {es:List Expr} {k:Nat} {t:TGs} {n:Nat} (hc:X.calm=true) (h:PGs X es t)
  (hn:autoParam ((assignEach es X.env).length=n) aR._auto_1) (hst:autoParam ((assignEach es X.env).findIdx? (·.1)=none) aR._auto_1):PG X (.Tuple es k pos) (gTup X.K n t):=by
 intro pins s σ H v u Q I r hw
 obtain ⟨a,xs,e1,hq,hl,hw⟩:=hw
 subst e1
 cases r
 obtain ⟨its,rv,ht,hz⟩:=I.tuple hq
 refine assign_Tuple_tuple (I.ok.hd hc) ht (by simp [hn,←hl,rv.length]) hst fun h' hx=>?_
 have I1:Inv X pins σ H { s with heap:=h' }:=I.kept (t':=s.toks) fun b o e=>hx b o (Nat.ne_of_lt (Heap.lt_size e)) e
 exact h pins _ σ H xs _ Q I1 (by simpa using rv) hw
def gSub (to ti:TE) (t:TSet):TG:=fun v σ H Q=>to σ H fun o H1=>ti σ H1 fun i H2=>t o i v H2 fun H3=>Q σ H3
theorem jM {o i:Expr} {to ti:TE} {t:TSet} (ho:PE X o to) (hi:PE X i ti) (hs:PSet X t)
  (ha:∀v,assign (.Subscript o i pos) X.env v=(do
   let ov ←holding [v] (eval o X.env)
   let iv ←holding [v,ov] (eval i X.env)
   standAt pos
   holding [v,ov,iv] (setItem ov iv v)
   release [v,ov,iv] []):=by intro _;rfl):PG X (.Subscript o i pos) (gSub to ti t):=by
 intro pins s σ H v u Q I r h
 rw [ha]
 refine wpAny_bind (wpAny_holding (thn (ho pins s σ H _ I h) fun ov s1 zz=>?_))
 obtain ⟨x,H1,I1,r1,q1⟩:=zz
 refine wpAny_bind (wpAny_holding (thn (hi pins s1 σ H1 _ I1 q1) fun iv s2 zz=>?_))
 obtain ⟨y,H2,I2,r2,q2⟩:=zz
 refine wpAny_bind (wpAny_standAt (wpAny_bind (wpAny_holding (thn (hs pins s2 σ H2 x y v ov iv u _ I2 r1 r2 r q2) fun _ s3 zz=>?_))))
 obtain ⟨H3,I3,q3⟩:=zz
 exact wpAny_release ⟨σ,H3,I3,q3⟩
def tAsg (te:TE) (g:TG):TS:=fun D σ H=>te σ H fun x H1=>g x σ H1 D.nx
theorem j3 {tg e:Expr} {te:TE} {g:TG} (he:PE X e te) (hg:PG X tg g) (hs:autoParam (swapsWithSole [tg] e pos.line X.env=pure false) aR._auto_1) (hw:autoParam (swappedStores [tg] e X.env=pure none) aR._auto_1)
  (h1:autoParam ((assignEach [tg] X.env).map (·.2)=[assign tg X.env]) aR._auto_1):PS X (.Assign [tg] e pos) (tAsg te g):=by
 intro pins s σ H D I h
 refine wpAny_Assign_stores (thn (he pins s σ H _ I h) fun v s1 ⟨x,H1,I1,r1,q1⟩=>?_) hs hw
 rw [h1]
 exact thn (hg pins s1 σ H1 x v _ I1 r1 q1) fun _ s2 q=>q
theorem zw {i:Nat} {x:Str} {e:Expr} {te:TE} {pos':Pos} (hN:X.N.Nodup) (hi:X.N[i]?=some x) (hx:Loc X.env.scope x) (he:PE X e te) (hs:autoParam (swapsWith e (some (.Name x pos')) pos.line X.env=pure false) aR._auto_1) (hf:X.fn x=true∨X.env.scope.names.lookup x=some .local:=by first | exact .inl rfl | exact .inr rfl | assumption):
  PS X (.Assign [.Name x pos'] e pos) (tAsg te (Qa i)):=by
 intro pins s σ H D I h
 refine wpAny_Assign_Name (thn (he pins s σ H _ I h) fun v s1 ⟨y,H1,I1,r1,q1⟩=>?_) hs
 exact Z0 I1 hN hi hx r1 (fun s2 I2=>⟨_,H1,I2,q1⟩) hf
def tPar (i j:Nat) (ta:TA):TS:=fun D σ H=>ta σ H fun vs H1=>∃v w,vs=[v,w]∧D.nx ((σ.set i (some v)).set j (some w)) H1
theorem JA {i j:Nat} {x y:Str} {a b:Expr} {ta:TA} {px py pt:Pos} {kt k2 pt2} (hc:X.calm=true) (hN:X.N.Nodup) (hi:X.N[i]?=some x) (hj:X.N[j]?=some y) (hij:i≠j)
  (hx:X.env.scope.names.lookup x=some .local) (hy:X.env.scope.names.lookup y=some .local) (ha:PA X [a,b] ta)
  (hw:swappedStores [.Tuple [.Name x px,.Name y py] kt pt] (.Tuple [a,b] k2 pt2) X.env=pure (some [x,y]))
  (hs:autoParam (swapsWithSole [.Tuple [.Name x px,.Name y py] kt pt] (.Tuple [a,b] k2 pt2) pos.line X.env=pure false) aR._auto_1):
  PS X (.Assign [.Tuple [.Name x px,.Name y py] kt pt] (.Tuple [a,b] k2 pt2) pos) (tPar i j ta):=by
 intro pins s σ H D I h
 rw [exec_Assign_arm]
 refine wpAny_bind (wpAny_standAt ?_)
 rw [hs]
 refine wpAny_bind (wpAny_pure ?_)
 rw [kq (by decide)]
 refine wpAny_bind (Tuple_ (thn (ha _ pins s σ H _ I h) fun us s1 zz=>?_))
 obtain ⟨vs,H1,I1,r1,q1⟩:=zz
 obtain ⟨v,w,e1,q1⟩:=q1
 subst e1
 obtain ⟨u1,u2,rfl,rv,rw'⟩:∃u1 u2,us=[u1,u2]∧RelV v u1∧RelV w u2:=by
  cases r1 with
  | cons p q=>
   cases q with
   | cons p' q'=>
    cases q'
    exact ⟨_,_,rfl,p,p'⟩
 refine wpAny_newObj_type ?_ (by show 2≤sizeLine;decide)
 have I2:Inv X pins σ H1 { s1 with heap:=s1.heap.push { cls:=.type "tuple",data:=.seq [u1,u2].toArray } }:=I1.kept (t':=s1.toks) fun b o e=>Heap.get?_push_of_some _ e
 rw [hw]
 refine wpAny_bind (wpAny_pure ?_)
 show wpAny (model X.prog X.w) X.A (do rule "assign.swapped-stores";let items ←unpackItems (.ref s1.heap.objs.size) 2 none;assignInOrder [fun v=>bindName X.env y v,fun v=>bindName X.env x v] items.reverse;pure Flow.next) _ _ _
 refine wpAny_bind (wpAny_rule (wpAny_bind (unpackItems_tuple (items:=#[u1,u2]) (I.ok.hd hc) (IsTup.new s1.heap _) fun h' hx'=>?_)))
 have I3:=I2.kept (h':=h') (t':=s1.toks) fun b o e=>hx' b o (Nat.ne_of_lt (Heap.lt_size e)) e
 show wpAny _ _ (assignInOrder [fun v=>bindName X.env y v,fun v=>bindName X.env x v] [u2,u1] >>= fun _=>pure Flow.next) _ _ _
 refine wpAny_bind (assignInOrder_cons (wpAny_bindName (Z0 I3 hN hj (.inl hy) rw' (fun s2 I4=>?_) (.inr hy))))
 refine assignInOrder_cons (wpAny_bindName (Z0 I4 hN hi (.inl hx) rv (fun s3 I5=>assignInOrder_nil (wpAny_pure ?_)) (.inr hx)))
 rw [List.set_comm _ _ (Ne.symm hij)] at I5
 exact ⟨_,H1,I5,q1⟩
end
section
variable {X:Cx} {pos:Pos}
def z35 (c:TT) (tb:TS):TS:=fun D σ H=>∃W:Nat→St→Hp→Prop,(∃m,W m σ H)∧∀m σ H,W m σ H→
 c σ H fun b H1=>if b=true then ∃N:St→Hp→Prop,(∀σ' H',N σ' H'→∃m',m' < m∧W m' σ' H')∧tb { D with nx:=N,ct:=N,bk:=D.nx } σ H1 else D.nx σ H1
theorem Jz {c:Expr} {body:List Stmt} {tc:TT} {tb:TS} (hp:PassesOwn (model X.prog X.w) X.A X.env X.xe) (hc:PT X c tc) (hb:PSs X body tb):PS X (.While c body [] pos) (z35 tc tb):=by
 intro pins s σ H D I h
 obtain ⟨W,⟨m0,w0⟩,turn⟩:=h
 refine wpAny_While (codeAny_whileLoop (fun n s'=>∃σ' H',Inv X pins σ' H' s'∧W n σ' H') ?_ m0 ⟨σ,H,I,w0⟩)
 rintro n s1 ⟨σ1,H1,I1,w1⟩
 refine wpAny_passesOwn hp (thn (hc pins s1 σ1 H1 _ I1 (turn n σ1 H1 w1)) fun b s2 zz=>?_)
 obtain ⟨H2,I2,q2⟩:=zz
 cases b with
 | true=>
  obtain ⟨N,hN,q2⟩:=q2
  rw [kr rfl]
  refine wpAny_passesOwn hp (thn (hb pins s2 σ1 H2 _ I2 q2) fun f s3 q3=>?_)
  cases f with
  | next=>
   obtain ⟨σ3,H3,I3,n3⟩:=q3
   obtain ⟨m',hm,w3⟩:=hN σ3 H3 n3
   exact ⟨m',hm,σ3,H3,I3,w3⟩
  | cont=>
   obtain ⟨σ3,H3,I3,n3⟩:=q3
   obtain ⟨m',hm,w3⟩:=hN σ3 H3 n3
   exact ⟨m',hm,σ3,H3,I3,w3⟩
  | brk=>exact q3
  | ret v=>exact q3
 | false=>
  rw [kq ka]
  exact wpAny_execs_nil ⟨σ1,H2,I2,q2⟩
end
structure It where
 go:Nat→Hp→Prop
 yld:Nat→Hp→V→Hp→Prop
 stop:Nat→Hp→Prop
def FpOk (X:Cx) (pins:List (Addr × Obj)) (H:Hp) (b:Addr):Prop:=
 H b=none∧b≠X.env.locals∧b∉X.fs∧(b∈X.ex∨X.s₀.heap.objs.size≤b)∧(∀x c,X.env.cells.lookup x=some c→c≠b)∧∀p∈X.pn++pins,p.1≠b
theorem Inv.fpOk {X:Cx} {pins:List (Addr × Obj)} {σ:St} {H H':Hp} {s:Shared} {b:Addr} (I:Inv X pins σ H s) (hb:s.heap.objs.size≤b) (hn:H' b=none):FpOk X pins H' b:=by
 refine ⟨hn,Nat.ne_of_gt (kF I.lt hb),I.nofs hb,.inr (km I.sz hb),fun x c e z=>?_,fun p hp z=>?_⟩
 ·obtain ⟨v,q⟩:=I.cell x c e
  exact absurd (kF q.lt (by rw [z];exact hb)) (Nat.lt_irrefl _)
 ·exact absurd (kF (Heap.lt_size (I.pin p hp).1) (by rw [z];exact hb)) (Nat.lt_irrefl _)
structure Turn (P:Program) (w:World) (K:ko) (tg:Expr) (J:It) (fp:List Addr) (it:Addr) (tn:Nat→Heap→Prop):Prop where
 mem:it∈fp
 obj:∀i h,tn i h→∀b∈fp,∃o,h.get? b=some o∧∀v,o.data≠.cell v
 keep:∀i h h',tn i h→(∀b∈fp,∀o,h.get? b=some o→h'.get? b=some o)→tn i h'
 item:∀(X:Cx),X.prog=P→X.w=w→X.K=K→X.calm=true→∀(i:Nat) (pins:List (Addr × Obj)) (s:Shared) (σ:St) (H:Hp) (E:Value→Shared→Prop),Inv X pins σ H s→(∀b∈fp,FpOk X pins H b)→tn i s.heap→J.go i H→
  wpAny (model P w) X.A (pyNext (.ref it)) (fun r s1=>∃u,r=some u∧
   wpAny (model P w) X.A (letOwnedTupleGo tg (.ref it) u) (fun _ s2=>∃x H',Inv X pins σ H' s2∧RelV x u∧J.yld i H x H'∧tn (i+1) s2.heap∧∀b∈fp,H' b=none) E s1) E s
 done:∀(X:Cx),X.prog=P→X.w=w→X.K=K→X.calm=true→∀(i:Nat) (pins:List (Addr × Obj)) (s:Shared) (σ:St) (H:Hp) (E:Value→Shared→Prop),Inv X pins σ H s→(∀b∈fp,FpOk X pins H b)→tn i s.heap→J.stop i H→
  wpAny (model P w) X.A (pyNext (.ref it)) (fun r s1=>r=none∧Inv X pins σ H s1) E s
 self:∀(A:Around) (i:Nat) (s:Shared) (Q:Value→Shared→Prop) (E:Value→Shared→Prop),tn i s.heap→Q (.ref it) s→wpAny (model P w) A (pyIter (.ref it)) Q E s
abbrev TI:=St→Hp→(It→Hp→Prop)→Prop
def PIE (X:Cx) (pins:List (Addr × Obj)) (σ:St) (tg:Expr) (R:It→Hp→Prop) (itv:Value) (s2:Shared):Prop:=
 ∃(it:Addr) (fp:List Addr) (tn:Nat→Heap→Prop) (J:It) (H':Hp),itv=.ref it∧Inv X pins σ H' s2∧Turn X.prog X.w X.K tg J fp it tn∧tn 0 s2.heap∧(∀b∈fp,FpOk X pins H' b)∧R J H'
def PI (X:Cx) (tg iter:Expr) (wi:TI):Prop:=
 ∀(pins:List (Addr × Obj)) (s:Shared) (σ:St) (H:Hp) (R:It→Hp→Prop),Inv X pins σ H s→wi σ H R→
  wpAny (model X.prog X.w) X.A (eval iter X.env) (fun v s1=>wpAny (model X.prog X.w) X.A (pyIter v) (PIE X pins σ tg R) X.xe s1) X.xe s
theorem z1x {M:Model} {A:Around} {E:Value→Shared→Prop} {s:Shared} {tg:Expr} {it:Addr} {u:Value} {o:Obj} {n:String} {vs:Array Value} {Q:Unit→Shared→Prop} (ho:s.heap.get? it=some o) (hc:o.cls=.type n) (hd:o.data=.fields vs)
  (hn:["enumerate","zip","dict_itemiterator","dict_reverseitemiterator","odict_iterator","itertools.zip_longest","itertools.pairwise"].contains n=false) (hQ:Q () s):wpAny M A (letOwnedTupleGo tg (.ref it) u) Q E s:=by
 unfold letOwnedTupleGo
 cases tg <;> first
  | exact wpAny_pure hQ
  | (cases u <;> first
    | exact wpAny_pure hQ
    | (refine wpAny_bind (wpAny_load ho ?_);rw [hc,hd];show wpAny M A (if (["enumerate","zip","dict_itemiterator","dict_reverseitemiterator","odict_iterator","itertools.zip_longest","itertools.pairwise"].contains n&&vs[0]? == some (rawInt _))=true then _ else _) Q E s;rw [kq (by intro h;rw [hn,Bool.false_and] at h;cases h)];exact wpAny_pure hQ))
noncomputable def Itl (K:ko) (a:Addr):It:=
 ⟨fun i H=>∃xs x,SqL K H a xs∧xs[i]?=some x,fun i H x H'=>H'=H∧∀xs,SqL K H a xs→xs[i]?=some x,fun i H=>∃xs,SqL K H a xs∧xs.length≤i⟩
noncomputable def Itr (lo:Int) (n:Nat):It:=⟨fun i _=>i < n,fun i H x H'=>H'=H∧x=.int (lo+i),fun i _=>n≤i⟩
theorem z0x {P:Program} {w:World} {K:ko} {tg:Expr} (a it:Addr):Turn P w K tg (Itl K a) [it] it (fun i h=>h.IsListIter it a i) where
 mem:=by simp
 obj:=fun i h st b hb=>by
  have e:b=it:=by simpa using hb
  subst e
  obtain ⟨o,e,c,d⟩:=st
  exact ⟨o,e,fun v z=>by rw [d] at z;cases z⟩
 keep:=fun i h h' st k=>st.at fun o e=>k it (by simp) o e
 item:=by
  intro X hP hw hK hc i pins s σ H E I hf st hg
  subst hP hw hK
  obtain ⟨xs,x,hq,hx⟩:=hg
  obtain ⟨its,rv,p,hz⟩:=I.list hq
  obtain ⟨u,hu,ru⟩:=rv.get hx
  obtain ⟨f0,f1,f2,f3,f4,f5⟩:=hf it (by simp)
  refine wpAny_pyNext_list_item st p.isList (x:=u) (by simpa using hu) fun h' st' sb=>?_
  have I1:Inv X pins σ H { s with heap:=h' }:=I.turned (t':=s.toks) (fun b o hb e=>(sb.2 b hb).trans e) f0 f1 f3 f4 f5
  obtain ⟨o,e,c,d⟩:=id st'
  exact ⟨u,rfl,z1x (s:={ s with heap:=h' }) e c d (by decide) ⟨x,H,I1,ru,⟨rfl,fun ys hy=>by rw [I.list_inj hy hq];exact hx⟩,st',fun b hb=>(hf b hb).1⟩⟩
 done:=by
  intro X hP hw hK hc i pins s σ H E I hf st hg
  subst hP hw hK
  obtain ⟨xs,hq,hx⟩:=hg
  obtain ⟨its,rv,p,hz⟩:=I.list hq
  obtain ⟨f0,f1,f2,f3,f4,f5⟩:=hf it (by simp)
  have hl:=rv.length
  exact wpAny_pyNext_list_end (I.ok.hd hc) st p.isList (by simp;lia) fun h' eb=>⟨rfl,I.turned (t':=s.toks) (fun b o hb e=>eb b o hb e) f0 f1 f3 f4 f5⟩
 self:=fun _ _ _ _ _ st h=>wpAny_pyIter_listiter st h
theorem JY {P:Program} {w:World} {K:ko} {tg:Expr} (it:Addr) (lo:Int) (n:Nat):Turn P w K tg (Itr lo n) [it] it (fun i h=>IsRangeIter h it (lo+(i:Nat) * 1) ((n:Int) - (i:Nat)) 1) where
 mem:=by simp
 obj:=fun i h st b hb=>by
  have e:b=it:=by simpa using hb
  subst e
  exact ⟨_,st,fun v z=>by
   have z':Data.fields _=Data.cell v:=z
   cases z'⟩
 keep:=fun i h h' st k=>k it (by simp) _ st
 item:=by
  intro X hP hw hK hc i pins s σ H E I hf st hg
  subst hP hw hK
  obtain ⟨f0,f1,f2,f3,f4,f5⟩:=hf it (by simp)
  have W:=Walks.range (prog:=X.prog) (w:=X.w) (I.ok.hd hc) it lo 1 n
  refine W.item i s _ _ hg st fun v h' tk hv st' kk=>?_
  obtain ⟨t,rfl⟩:=hv
  have I1:Inv X pins σ H { s with heap:=h',toks:=tk }:=I.turned (fun b o hb e=>kk b o (by simpa using hb) e) f0 f1 f3 f4 f5
  refine ⟨_,rfl,z1x (s:={ s with heap:=h',toks:=tk }) (n:="range_iterator") st' rfl rfl (by decide) ⟨.int (lo+i),H,I1,⟨t,?_⟩,⟨rfl,rfl⟩,st',fun b hb=>(hf b hb).1⟩⟩
  rw [Int.mul_one]
 done:=by
  intro X hP hw hK hc i pins s σ H E I hf st hg
  subst hP hw hK
  obtain ⟨f0,f1,f2,f3,f4,f5⟩:=hf it (by simp)
  exact wpAny_pyNext_range_end (I.ok.hd hc) st (by have:n≤i:=hg;lia) fun h' eb=>⟨rfl,I.turned (t':=s.toks) (fun b o hb e=>eb b o hb e) f0 f1 f3 f4 f5⟩
 self:=fun _ _ _ _ _ st h=>wpAny_pyIter_rangeiter st h
end L2
namespace L2
open PySem PySem.Spec PyProof.Rows
section
variable {X:Cx} {tg:Expr}
def z3Z (K:ko) (tl:TE):TI:=fun σ H R=>tl σ H fun x H1=>∃a,x=.ref a∧(∃xs,SqL K H1 a xs)∧R (Itl K a) H1
theorem qd {l:Expr} {tl:TE} (hl:PE X l tl):PI X tg l (z3Z X.K tl):=by
 intro pins s σ H R I h
 refine thn (hl pins s σ H _ I h) fun v s1 zz=>?_
 obtain ⟨x,H1,I1,r1,q1⟩:=zz
 obtain ⟨a,e,⟨xs,hq⟩,q⟩:=q1
 subst e
 cases r1
 obtain ⟨its,rv,p,hz⟩:=I1.list hq
 refine wpAny_pyIter_list p.isList ?_
 refine ⟨s1.heap.objs.size,[s1.heap.objs.size],_,_,H1,rfl,I1.kept (t':=s1.toks) fun b o e=>Heap.get?_push_of_some _ e,z0x a _,⟨_,Heap.get?_push_size _ rfl,rfl,rfl⟩,fun b hb=>?_,q⟩
 have e:b=s1.heap.objs.size:=by simpa using hb
 subst e
 exact I1.fpOk (kc _) (I1.hok.fresh (kc _))
theorem z2f {pins:List (Addr × Obj)} {σ:St} {H:Hp} {s:Shared} {R:It→Hp→Prop} {E:Value→Shared→Prop} {lo hi:Int} {t u v:Tok} {tk:Nat} (I:Inv X pins σ H s) (h1: -(2 ^ 62)≤lo) (h2:lo < 2 ^ 62) (h3: -(2 ^ 62)≤hi) (h4:hi < 2 ^ 62)
  (q:R (Itr lo (hi - lo).toNat) H):wpAny (model X.prog X.w) X.A (pyIter (.ref s.heap.objs.size)) (PIE X pins σ tg R) E { s with heap:=s.heap.push { cls:=.type "range",data:=.fields #[.int lo t,.int hi u,.int 1 v] },toks:=tk }:=by
 refine wpAny_pyIter_range (IsRange.new ..) (small_one h1 h2 h3 h4) ?_
 have I1:Inv X pins σ H { s with heap:=s.heap.push { cls:=.type "range",data:=.fields #[.int lo t,.int hi u,.int 1 v] },toks:=tk }:=I.kept fun b o e=>Heap.get?_push_of_some _ e
 refine ⟨(s.heap.push { cls:=.type "range",data:=.fields #[.int lo t,.int hi u,.int 1 v] }).objs.size,[(s.heap.push { cls:=.type "range",data:=.fields #[.int lo t,.int hi u,.int 1 v] }).objs.size],_,_,H,rfl,
  I1.kept (t':=tk) fun b o e=>Heap.get?_push_of_some _ e,JY _ lo (hi - lo).toNat,?_,fun b hb=>?_,q⟩
 ·have e1:lo+((0:Nat):Int) * 1=lo:=by simp
  have e2:(((hi - lo).toNat:Nat):Int) - ((0:Nat):Int)=Builtin.Range.rangeSize lo hi 1:=by rw [rangeSize_one];split <;> lia
  show IsRangeIter _ _ (lo+((0:Nat):Int) * 1) ((((hi - lo).toNat:Nat):Int) - ((0:Nat):Int)) 1
  rw [e1,e2]
  exact Heap.get?_push_size _ rfl
 ·have e:b=(s.heap.push { cls:=.type "range",data:=.fields #[.int lo t,.int hi u,.int 1 v] }).objs.size:=by simpa using hb
  subst e
  exact I1.fpOk (kc _) (I1.hok.fresh (kc _))
def z5F (ta:TA):TI:=fun σ H R=>ta σ H fun vs H1=>∃j:Int,vs=[.int j]∧-(2 ^ 62)≤j∧j < 2 ^ 62∧R (Itr 0 j.toNat) H1
theorem jq {a:Expr} {ta:TA} {p pos:Pos} (hg:Gl X "range") (hm:X.mg "range"=none) (ha:PA X [a] ta) (hs:autoParam (starEach [a] X.env=[(false,eval a X.env)]) aR._auto_1):PI X tg (.Call (.Name "range" p) [a] [] pos) (z5F ta):=by
 intro pins s σ H R I h
 refine Call_ (jP I hg hm boot_range (PyProof.Rows.callWith_type1 (thn (ha pos pins s σ H _ I h) fun us s1 ⟨vs,H1,I1,r1,q1⟩=>?_) hs rfl))
 obtain ⟨j,e,q1,q2,q⟩:=q1
 subst e
 cases r1 with
 | cons r rr=>
  cases rr
  obtain ⟨t,rfl⟩:=r
  exact call_range_1 (z2f I1 (by lia) (by lia) q1 q2 (by simpa using q))
def tFor (wi:TI) (g:TG) (tb:TS):TS:=fun D σ H=>wi σ H fun J H1=>∃W:Nat→Nat→St→Hp→Prop,(∃m,W 0 m σ H1)∧∀i m σ H,W i m σ H→
 (J.stop i H∧D.nx σ H)∨(J.go i H∧∃N:St→Hp→Prop,(∀σ' H',N σ' H'→∃m',m' < m∧W (i+1) m' σ' H')∧∀x H',J.yld i H x H'→g x σ H' fun σ2 H2=>tb { D with nx:=N,ct:=N,bk:=D.nx } σ2 H2)
noncomputable def Qo (fp:List Addr) (h:Heap):List (Addr × Obj):=fp.filterMap fun b=>(h.get? b).map fun o=>(b,o)
theorem jd {fp:List Addr} {h:Heap} {b:Addr} {o:Obj} (hb:b∈fp) (e:h.get? b=some o):(b,o)∈Qo fp h:=List.mem_filterMap.mpr ⟨b,hb,by rw [e];rfl⟩
theorem z1d {fp:List Addr} {h:Heap} {p:Addr × Obj} (hp:p∈Qo fp h):p.1∈fp∧h.get? p.1=some p.2:=by
 obtain ⟨b,hb,e⟩:=List.mem_filterMap.mp hp
 cases q:h.get? b with
 | none=>rw [q] at e;cases e
 | some o=>
  rw [q] at e
  have e':(b,o)=p:=ku e
  subst e'
  exact ⟨hb,q⟩
theorem Inv.pinned {pins:List (Addr × Obj)} {σ:St} {H:Hp} {s:Shared} {fp:List Addr} (I:Inv X pins σ H s) (hf:∀b∈fp,FpOk X pins H b) (ho:∀b∈fp,∃o,s.heap.get? b=some o∧∀v,o.data≠.cell v):Inv X (pins++Qo fp s.heap) σ H s:=
 I.pins_of fun p hp=>(kL.mp hp).elim (fun z=>I.pin p (kG _ z)) fun z=>by
  obtain ⟨hb,e⟩:=z1d z
  obtain ⟨f0,f1,f2,_⟩:=hf p.1 hb
  obtain ⟨o,e',d⟩:=ho p.1 hb
  rw [e] at e';cases e'
  exact ⟨e,f0,f1,f2,d⟩
theorem Inv.unpinned {pins pl:List (Addr × Obj)} {σ:St} {H:Hp} {s:Shared} (I:Inv X (pins++pl) σ H s):Inv X pins σ H s:=I.pins_of fun p hp=>I.pin p (kG _ (kH _ hp))
theorem jg {iter:Expr} {body:List Stmt} {wi:TI} {g:TG} {tb:TS} {pos:Pos} (hp:PassesOwn (model X.prog X.w) X.A X.env X.xe) (hc:X.calm=true) (hi:PI X tg iter wi) (hg:PG X tg g) (hb:PSs X body tb)
  (hs:∀x,foldedSetIterable iter X.env x=pure x:=by intro _;rfl):PS X (.For tg iter body [] pos) (tFor wi g tb):=by
 intro pins s σ H D I h
 refine wpAny_For (thn (hi pins s σ H _ I h) fun v s1 h1=>thn h1 fun itv s2 h2=>?_) hs
 obtain ⟨it,fp,tn,J,H2,e,I2,T,st2,f2,W,⟨m0,w0⟩,turn⟩:=h2
 subst e
 have stat:∀{H':Hp},(∀b∈fp,H' b=none)→∀b∈fp,FpOk X pins H' b:=fun hn b hb=>⟨hn b hb,(f2 b hb).2⟩
 refine codeAny_forLoop_any (fun n s'=>∃i σ' H',Inv X pins σ' H' s'∧tn i s'.heap∧(∀b∈fp,H' b=none)∧W i n σ' H') ?_ m0 ⟨0,σ,H2,I2,st2,fun b hb=>(f2 b hb).1,w0⟩
 rintro n s3 ⟨i,σ3,H3,I3,st3,fr3,w3⟩
 rcases turn i n σ3 H3 w3 with ⟨stop,qn⟩ | ⟨go,N,hN,step⟩
 ·refine wpAny_passesOwn hp (thn (T.done X rfl rfl rfl hc i pins s3 σ3 H3 X.xe I3 (stat fr3) st3 stop) fun r s4 zz=>?_)
  obtain ⟨hr,I4⟩:=zz
  subst hr
  exact wpAny_execs_nil ⟨σ3,H3,I4,qn⟩
 ·refine wpAny_passesOwn hp (thn (T.item X rfl rfl rfl hc i pins s3 σ3 H3 X.xe I3 (stat fr3) st3 go) fun r s4 zz=>?_)
  obtain ⟨u,hr,h4⟩:=zz
  subst hr
  refine wpAny_passesOwn hp (thn h4 fun _ s5 zz=>?_)
  obtain ⟨x,H5,I5,r5,y5,st5,fr5⟩:=zz
  have I5':=I5.pinned (stat fr5) (T.obj _ _ st5)
  refine wpAny_passesOwn hp (thn (hg _ s5 σ3 H5 x u _ I5' r5 (step x H5 y5)) fun _ s6 zz=>?_)
  obtain ⟨σ6,H6,I6,q6⟩:=zz
  refine wpAny_passesOwn hp (thn (hb _ s6 σ6 H6 _ I6 q6) fun f s7 q7=>?_)
  have again:∀{σ7:St} {H7:Hp},Inv X (pins++Qo fp s5.heap) σ7 H7 s7→N σ7 H7→∃m,m < n∧∃i σ' H',Inv X pins σ' H' s7∧tn i s7.heap∧(∀b∈fp,H' b=none)∧W i m σ' H':=fun {σ7 H7} I7 n7=>by
   obtain ⟨m',hm,w7⟩:=hN σ7 H7 n7
   refine ⟨m',hm,i+1,σ7,H7,I7.unpinned,T.keep _ _ _ st5 fun b hb o e=>(I7.pin (b,o) (kG _ (kG _ (jd hb e)))).1,fun b hb=>?_,w7⟩
   obtain ⟨o,e,d⟩:=T.obj _ _ st5 b hb
   exact (I7.pin (b,o) (kG _ (kG _ (jd hb e)))).2.1
  cases f with
  | next=>obtain ⟨σ7,H7,I7,n7⟩:=q7;exact again I7 n7
  | cont=>obtain ⟨σ7,H7,I7,n7⟩:=q7;exact again I7 n7
  | brk=>obtain ⟨σ7,H7,I7,q7⟩:=q7;exact ⟨σ7,H7,I7.unpinned,q7⟩
  | ret v=>obtain ⟨x7,σ7,H7,I7,r7,q7⟩:=q7;exact ⟨x7,σ7,H7,I7.unpinned,r7,q7⟩
end
theorem jy {K:ko} {a:Addr} {xs:List V} {g:TG} {tb:TS} {D:Ends} {σ:St} {H:Hp} (Pv:Nat→St→Hp→Prop) (h0:Pv 0 σ H) (hl:∀i σ H,i≤xs.length→Pv i σ H→SqL K H a xs)
  (hs:∀i x σ H,xs[i]?=some x→Pv i σ H→g x σ H fun σ2 H2=>tb { D with nx:=Pv (i+1),ct:=Pv (i+1),bk:=D.nx } σ2 H2) (hd:∀σ H,Pv xs.length σ H→D.nx σ H):
  ∃W:Nat→Nat→St→Hp→Prop,(∃m,W 0 m σ H)∧∀i m σ H,W i m σ H→
   ((Itl K a).stop i H∧D.nx σ H)∨((Itl K a).go i H∧∃N:St→Hp→Prop,(∀σ' H',N σ' H'→∃m',m' < m∧W (i+1) m' σ' H')∧∀x H',(Itl K a).yld i H x H'→g x σ H' fun σ2 H2=>tb { D with nx:=N,ct:=N,bk:=D.nx } σ2 H2):=by
 refine ⟨fun i m σ H=>m=xs.length - i∧i≤xs.length∧Pv i σ H,⟨xs.length,by simp,Nat.zero_le _,h0⟩,?_⟩
 rintro i m σ H ⟨rfl,hi,p⟩
 have q:=hl i σ H hi p
 by_cases hlt:i < xs.length
 ·refine .inr ⟨⟨xs,xs[i],q,by simp [hlt]⟩,Pv (i+1),fun σ' H' p'=>⟨xs.length - (i+1),by lia,rfl,hlt,p'⟩,fun x H' y=>?_⟩
  obtain ⟨e,y⟩:=y
  subst e
  exact hs i x σ _ (y xs q) p
 ·have e:i=xs.length:=by lia
  subst e
  exact .inl ⟨⟨xs,q,kc _⟩,hd σ H p⟩
theorem Zr {lo:Int} {n:Nat} {g:TG} {tb:TS} {D:Ends} {σ:St} {H:Hp} (Pv:Nat→St→Hp→Prop) (h0:Pv 0 σ H)
  (hs:∀i σ H,i < n→Pv i σ H→g (.int (lo+i)) σ H fun σ2 H2=>tb { D with nx:=Pv (i+1),ct:=Pv (i+1),bk:=D.nx } σ2 H2) (hd:∀σ H,Pv n σ H→D.nx σ H):
  ∃W:Nat→Nat→St→Hp→Prop,(∃m,W 0 m σ H)∧∀i m σ H,W i m σ H→
   ((Itr lo n).stop i H∧D.nx σ H)∨((Itr lo n).go i H∧∃N:St→Hp→Prop,(∀σ' H',N σ' H'→∃m',m' < m∧W (i+1) m' σ' H')∧∀x H',(Itr lo n).yld i H x H'→g x σ H' fun σ2 H2=>tb { D with nx:=N,ct:=N,bk:=D.nx } σ2 H2):=by
 refine ⟨fun i m σ H=>m=n - i∧i≤n∧Pv i σ H,⟨n,by simp,Nat.zero_le _,h0⟩,?_⟩
 rintro i m σ H ⟨rfl,hi,p⟩
 by_cases hlt:i < n
 ·refine .inr ⟨hlt,Pv (i+1),fun σ' H' p'=>⟨n - (i+1),by lia,rfl,hlt,p'⟩,fun x H' y=>?_⟩
  obtain ⟨e,y⟩:=y
  subst e y
  exact hs i σ _ hlt p
 ·have e:i=n:=by lia
  subst e
  exact .inl ⟨kc _,hd σ H p⟩
end L2
namespace L2
open PySem PySem.Spec PyProof.Rows
abbrev R2:=V→V→Hp→VK→Prop
def OpR (X:Cx) (f:Value→Value→Sem Value) (r:R2):Prop:=
 ∀(pins:List (Addr × Obj)) (s:Shared) (σ:St) (H:Hp) (x y:V) (v u:Value) (Q:VK),Inv X pins σ H s→RelV x v→RelV y u→r x y H Q→
  wpAny (model X.prog X.w) X.A (f v u) (EP X pins σ Q) X.xe s
def UnR (X:Cx) (f:Value→Sem Value) (r:V→Hp→VK→Prop):Prop:=
 ∀(pins:List (Addr × Obj)) (s:Shared) (σ:St) (H:Hp) (x:V) (v:Value) (Q:VK),Inv X pins σ H s→RelV x v→r x H Q→
  wpAny (model X.prog X.w) X.A (f v) (EP X pins σ Q) X.xe s
def Zx (X:Cx) (f:Value) (r:List V→Hp→VK→Prop):Prop:=
 ∀(pins:List (Addr × Obj)) (s:Shared) (σ:St) (H:Hp) (xs:List V) (us:List Value) (Q:VK),Inv X pins σ H s→Vals xs us→r xs H Q→
  wpAny (model X.prog X.w) X.A (call f us) (EP X pins σ Q) X.xe s
def TruR (X:Cx) (r:V→Hp→(Bool→Hp→Prop)→Prop):Prop:=
 ∀(pins:List (Addr × Obj)) (s:Shared) (σ:St) (H:Hp) (x:V) (v:Value) (Q:Bool→Hp→Prop),Inv X pins σ H s→RelV x v→r x H Q→
  wpAny (model X.prog X.w) X.A (truthy v) (TP X pins σ Q) X.xe s
def tOp (r:R2) (ta tb:TE):TE:=fun σ H Q=>ta σ H fun x H1=>tb σ H1 fun y H2=>r x y H2 Q
def tUn (r:V→Hp→VK→Prop) (ta:TE):TE:=fun σ H Q=>ta σ H fun x H1=>r x H1 Q
def rI (C:Int→Int→Prop) (g:Int→Int→V):R2:=fun x y H Q=>∃i j,x=.int i∧y=.int j∧C i j∧Q (g i j) H
def rI0 (g:Int→Int→V):R2:=fun x y H Q=>∃i j,x=.int i∧y=.int j∧Q (g i j) H
def rU (g:Int→V):V→Hp→VK→Prop:=fun x H Q=>∃i,x=.int i∧Q (g i) H
section
variable {X:Cx} {a b c:Expr} {ta tb tc:TE} {pos:Pos}
theorem binT (ha:PE X a ta) (hb:PE X b tb) {pins:List (Addr × Obj)} {s:Shared} {σ:St} {H:Hp} {R:V→V→Hp→Prop} (I:Inv X pins σ H s)
  (h:ta σ H fun x H1=>tb σ H1 fun y H2=>R x y H2) {Q:Value→Shared→Prop} {f:Value→Value→Sem Value}
  (hf:∀v u s2 x y H2,Inv X pins σ H2 s2→RelV x v→RelV y u→R x y H2→wpAny (model X.prog X.w) X.A (f v u) Q X.xe s2):
  wpAny (model X.prog X.w) X.A (eval a X.env) (fun v s₁=>wpAny (model X.prog X.w) X.A (eval b X.env) (fun u s₂=>wpAny (model X.prog X.w) X.A (f v u) Q X.xe s₂) X.xe s₁) X.xe s:=by
 refine thn (ha pins s σ H _ I h) fun v s1 zz=>?_
 obtain ⟨x,H1,I1,r1,q1⟩:=zz
 refine thn (hb pins s1 σ H1 _ I1 q1) fun u s2 zz=>?_
 obtain ⟨y,H2,I2,r2,q2⟩:=zz
 exact hf v u s2 x y H2 I2 r1 r2 q2
theorem zI {op:Operator} {r:R2} (ho:OpR X (binaryOp op) r) (ha:PE X a ta) (hb:PE X b tb):PE X (.BinOp a op b pos) (tOp r ta tb):=by
 intro pins s σ H Q I h
 exact wpAny_BinOp (binT ha hb I h fun v u s2 x y H2 I2 rx ry q=>ho pins s2 σ H2 x y v u Q I2 rx ry q)
theorem z03 {op:UnaryOp} {r:V→Hp→VK→Prop} (ho:UnR X (unaryOp op) r) (ha:PE X a ta):PE X (.UnaryOp op a pos) (tUn r ta):=by
 intro pins s σ H Q I h
 exact UnaryOp_ (thn (ha pins s σ H _ I h) fun v s1 ⟨x,H1,I1,r1,q1⟩=>ho pins s1 σ H1 x v Q I1 r1 q1)
theorem opI {f:Value→Value→Sem Value} {C:Int→Int→Prop} {g:Int→Int→Int}
  (rule:∀(i j:Int) (t u:Tok) (s:Shared) (Q:Value→Shared→Prop) (E:Value→Shared→Prop),C i j→Q (.int (g i j) s.toks) { s with toks:=s.toks+1 }→wpAny (model X.prog X.w) X.A (f (.int i t) (.int j u)) Q E s):
  OpR X f (rI C fun i j=>.int (g i j)):=by
 intro pins s σ H x y v u Q I rx ry h
 obtain ⟨i,j,rfl,rfl,hc,q⟩:=h
 obtain ⟨t,rfl⟩:=rx
 obtain ⟨t',rfl⟩:=ry
 exact rule i j t t' s _ _ hc ⟨.int (g i j),H,I.tok _,⟨_,rfl⟩,q⟩
theorem opI0 {f:Value→Value→Sem Value} {g:Int→Int→Int}
  (rule:∀(i j:Int) (t u:Tok) (s:Shared) (Q:Value→Shared→Prop) (E:Value→Shared→Prop),Q (.int (g i j) s.toks) { s with toks:=s.toks+1 }→wpAny (model X.prog X.w) X.A (f (.int i t) (.int j u)) Q E s):
  OpR X f (rI0 fun i j=>.int (g i j)):=by
 intro pins s σ H x y v u Q I rx ry h
 obtain ⟨i,j,rfl,rfl,q⟩:=h
 obtain ⟨t,rfl⟩:=rx
 obtain ⟨t',rfl⟩:=ry
 exact rule i j t t' s _ _ ⟨.int (g i j),H,I.tok _,⟨_,rfl⟩,q⟩
theorem opB0 {f:Value→Value→Sem Value} {g:Int→Int→Bool}
  (rule:∀(i j:Int) (t u:Tok) (s:Shared) (Q:Value→Shared→Prop) (E:Value→Shared→Prop),Q (.bool (g i j)) s→wpAny (model X.prog X.w) X.A (f (.int i t) (.int j u)) Q E s):
  OpR X f (rI0 fun i j=>.bl (g i j)):=by
 intro pins s σ H x y v u Q I rx ry h
 obtain ⟨i,j,rfl,rfl,q⟩:=h
 obtain ⟨t,rfl⟩:=rx
 obtain ⟨t',rfl⟩:=ry
 exact rule i j t t' s _ _ ⟨.bl (g i j),H,I,rfl,q⟩
def CDiv (i j:Int):Prop:=0 < j∧j < 1073741824
def CPow (i j:Int):Prop:=0≤j∧j≤1000000∧i.natAbs < 2 ^ 64
def CMul (i j:Int):Prop:=(-(2 ^ 64) < i∧i < 2 ^ 64)∨(-(2 ^ 64) < j∧j < 2 ^ 64)
theorem CMul.ok {i j:Int} (h:CMul i j):IntMulOk i j:=by
 rcases h with ⟨h1,h2⟩ | ⟨h1,h2⟩
 ·exact .of_left (intBits_le_64 h1 h2)
 ·exact .of_right (intBits_le_64 h1 h2)
theorem qL:OpR X (binaryOp .Add) (rI0 fun i j=>.int (i+j)):=opI0 fun _ _ _ _ _ _ _ q=>add_int q
theorem Zj:OpR X (binaryOp .Sub) (rI0 fun i j=>.int (i - j)):=opI0 fun _ _ _ _ _ _ _ q=>sub_int q
theorem JD:OpR X (binaryOp .Mult) (rI CMul fun i j=>.int (i * j)):=opI fun _ _ _ _ _ _ _ hc q=>mul_int q hc.ok
theorem Zl:OpR X (binaryOp .FloorDiv) (rI CDiv fun i j=>.int (i / j)):=opI fun i j _ _ _ _ _ hc q=>by
 have h1:(0:Int) < j:=hc.1
 have h2:j < 1073741824:=hc.2
 exact floordiv_int (by lia) (by rw [Int.fdiv_eq_ediv_of_nonneg i (by lia)];exact q) (.inl (PyProof.noPylong_small (by lia)))
theorem Zk:OpR X (binaryOp .Mod) (rI (fun _ j=>0 < j) fun i j=>.int (i % j)):=opI fun i j _ _ _ _ _ hc q=>by
 have h1:(0:Int) < j:=hc
 exact mod_int' (by lia) (by rw [Int.fmod_eq_emod_of_nonneg i (by lia)];exact q)
theorem z3m:OpR X (binaryOp .Pow) (rI CPow fun i j=>.int (i ^ j.toNat)):=opI fun _ _ _ _ _ _ _ hc q=>pow_int_small hc.1 hc.2.1 hc.2.2 q
theorem unI {f:Value→Sem Value} {g:Int→Int}
  (rule:∀(i:Int) (t:Tok) (s:Shared) (Q:Value→Shared→Prop) (E:Value→Shared→Prop),Q (.int (g i) s.toks) { s with toks:=s.toks+1 }→wpAny (model X.prog X.w) X.A (f (.int i t)) Q E s):
  UnR X f (rU fun i=>.int (g i)):=by
 intro pins s σ H x v Q I rx h
 obtain ⟨i,rfl,q⟩:=h
 obtain ⟨t,rfl⟩:=rx
 exact rule i t s _ _ ⟨.int (g i),H,I.tok _,⟨_,rfl⟩,q⟩
theorem ZC:UnR X (unaryOp .USub) (rU fun i=>.int (-i)):=unI fun _ _ _ _ _ q=>neg_int q
end
noncomputable def scal:V→V→Bool
 | .non,.non=>true | .non,.int _=>true | .int _,.non=>true | .non,.bl _=>true | .bl _,.non=>true | .non,.str _=>true | .str _,.non=>true
 | .int _,.int _=>true | .bl _,.bl _=>true | .str _,.str _=>true | .byt _,.byt _=>true
 | .int _,.str _=>true | .str _,.int _=>true | .bl _,.str _=>true | .str _,.bl _=>true
 | _,_=>false
def rEq:R2:=fun x y H Q=>scal x y=true∧Q (.bl (decide (x=y))) H
def rNe:R2:=fun x y H Q=>scal x y=true∧Q (.bl (!decide (x=y))) H
theorem z1N {i j:Int}:decide (V.int i=V.int j)=(i == j):=by
 rw [Bool.eq_iff_iff]
 simp
theorem z3w {i j:Bool}:decide (V.bl i=V.bl j)=(i == j):=by
 rw [Bool.eq_iff_iff]
 simp
theorem z1M {i j:Str}:decide (V.str i=V.str j)=(i == j):=by
 rw [Bool.eq_iff_iff]
 simp
theorem z1O {i j:Array UInt8}:decide (V.byt i=V.byt j)=(i.toList == j.toList):=by
 rw [Bool.eq_iff_iff]
 cases i
 cases j
 simp
section
variable {X:Cx} {a b c:Expr} {ta tb tc:TE} {pos:Pos}
theorem zv {pins:List (Addr × Obj)} {σ:St} {H:Hp} {s:Shared} {Q:VK} {k k':Bool} (I:Inv X pins σ H s) (q:Q (.bl k) H) (e:k=k'):EP X pins σ Q (.bool k') s:=by
 subst e
 exact ⟨.bl k,H,I,rfl,q⟩
theorem jV:OpR X (compareOp .Eq) rEq:=by
 intro pins s σ H x y v u Q I rx ry h
 obtain ⟨hs,q⟩:=h
 cases x with
 | non=>
  cases rx
  cases y with
  | non=>cases ry;exact PySem.EqNone.eq_none_none (zv I q (by simp))
  | bl j=>cases ry;exact PySem.EqNone.eq_none_bool (zv I q (by simp))
  | int j=>obtain ⟨t',rfl⟩:=ry;exact PySem.EqNone.eq_none_int (zv I q (by simp))
  | str j=>obtain ⟨t',rfl⟩:=ry;exact PySem.EqNone.eq_none_str (zv I q (by simp))
  | _=>exact absurd (show false=true from hs) ka
 | bl i=>
  cases rx
  cases y with
  | non=>cases ry;exact PySem.EqNone.eq_bool_none (zv I q (by simp))
  | bl j=>cases ry;exact eq_bool (zv I q z3w)
  | str j=>obtain ⟨t',rfl⟩:=ry;exact PySem.EqMixed.eq_bool_str (zv I q (by simp))
  | _=>exact absurd (show false=true from hs) ka
 | int i=>
  obtain ⟨t,rfl⟩:=rx
  cases y with
  | non=>cases ry;exact PySem.EqNone.eq_int_none (zv I q (by simp))
  | int j=>obtain ⟨t',rfl⟩:=ry;exact eq_int (zv I q z1N)
  | str j=>obtain ⟨t',rfl⟩:=ry;exact PySem.EqMixed.eq_int_str (zv I q (by simp))
  | _=>exact absurd (show false=true from hs) ka
 | str i=>
  obtain ⟨t,rfl⟩:=rx
  cases y with
  | non=>cases ry;exact PySem.EqNone.eq_str_none (zv I q (by simp))
  | bl j=>cases ry;exact PySem.EqMixed.eq_str_bool (zv I q (by simp))
  | int j=>obtain ⟨t',rfl⟩:=ry;exact PySem.EqMixed.eq_str_int (zv I q (by simp))
  | str j=>obtain ⟨t',rfl⟩:=ry;exact eq_str (zv I q z1M)
  | _=>exact absurd (show false=true from hs) ka
 | byt i=>
  obtain ⟨t,rfl⟩:=rx
  cases y with
  | byt j=>obtain ⟨t',rfl⟩:=ry;exact PySem.W.eq_bytes (zv I q z1O)
  | _=>exact absurd (show false=true from hs) ka
 | _=>cases y <;> exact absurd (show false=true from hs) ka
theorem Q0:OpR X (compareOp .NotEq) rNe:=by
 intro pins s σ H x y v u Q I rx ry h
 obtain ⟨hs,q⟩:=h
 cases x with
 | non=>
  cases rx
  cases y with
  | non=>cases ry;exact PySem.EqNone.ne_none_none (zv I q (by simp))
  | bl j=>cases ry;exact PySem.EqNone.ne_none_bool (zv I q (by simp))
  | int j=>obtain ⟨t',rfl⟩:=ry;exact PySem.EqNone.ne_none_int (zv I q (by simp))
  | str j=>obtain ⟨t',rfl⟩:=ry;exact PySem.EqNone.ne_none_str (zv I q (by simp))
  | _=>exact absurd (show false=true from hs) ka
 | bl i=>
  cases rx
  cases y with
  | non=>cases ry;exact PySem.EqNone.ne_bool_none (zv I q (by simp))
  | bl j=>cases ry;exact ne_bool (zv I q (congrArg not z3w))
  | str j=>obtain ⟨t',rfl⟩:=ry;exact PySem.EqMixed.ne_bool_str (zv I q (by simp))
  | _=>exact absurd (show false=true from hs) ka
 | int i=>
  obtain ⟨t,rfl⟩:=rx
  cases y with
  | non=>cases ry;exact PySem.EqNone.ne_int_none (zv I q (by simp))
  | int j=>obtain ⟨t',rfl⟩:=ry;exact ne_int (zv I q (congrArg not z1N))
  | str j=>obtain ⟨t',rfl⟩:=ry;exact PySem.EqMixed.ne_int_str (zv I q (by simp))
  | _=>exact absurd (show false=true from hs) ka
 | str i=>
  obtain ⟨t,rfl⟩:=rx
  cases y with
  | non=>cases ry;exact PySem.EqNone.ne_str_none (zv I q (by simp))
  | bl j=>cases ry;exact PySem.EqMixed.ne_str_bool (zv I q (by simp))
  | int j=>obtain ⟨t',rfl⟩:=ry;exact PySem.EqMixed.ne_str_int (zv I q (by simp))
  | str j=>obtain ⟨t',rfl⟩:=ry;exact ne_str (zv I q (congrArg not z1M))
  | _=>exact absurd (show false=true from hs) ka
 | byt i=>
  obtain ⟨t,rfl⟩:=rx
  cases y with
  | byt j=>obtain ⟨t',rfl⟩:=ry;exact PySem.W.ne_bytes (zv I q (congrArg not z1O))
  | _=>exact absurd (show false=true from hs) ka
 | _=>cases y <;> exact absurd (show false=true from hs) ka
theorem z4P:OpR X (compareOp .Lt) (rI0 fun i j=>.bl (decide (i < j))):=opB0 fun _ _ _ _ _ _ _ q=>lt_int q
theorem Qs:OpR X (compareOp .LtE) (rI0 fun i j=>.bl (decide (i≤j))):=opB0 fun _ _ _ _ _ _ _ q=>le_int q
theorem z5D:OpR X (compareOp .Gt) (rI0 fun i j=>.bl (decide (j < i))):=opB0 fun _ _ _ _ _ _ _ q=>gt_int q
theorem z5E:OpR X (compareOp .GtE) (rI0 fun i j=>.bl (decide (j≤i))):=opB0 fun _ _ _ _ _ _ _ q=>ge_int q
theorem Qt:OpR X (compareOp .Is) (fun x y H Q=>y=.non∧Q (.bl (decide (x=.non))) H):=by
 intro pins s σ H x y v u Q I rx ry h
 obtain ⟨rfl,q⟩:=h
 cases ry
 refine is_none_gen (zv I q ?_)
 cases x <;> first
  | (cases rx;rfl)
  | (obtain ⟨t,rfl⟩:=rx;rfl)
theorem ZZ:OpR X (compareOp .IsNot) (fun x y H Q=>y=.non∧Q (.bl (!decide (x=.non))) H):=by
 intro pins s σ H x y v u Q I rx ry h
 obtain ⟨rfl,q⟩:=h
 cases ry
 refine isnot_none_gen (zv I q ?_)
 cases x <;> first
  | (cases rx;rfl)
  | (obtain ⟨t,rfl⟩:=rx;rfl)
theorem zu (b:Expr) {op:CmpOp} (h:autoParam (op≠.In) aR._auto_2) (h2:autoParam (op≠.NotIn) aR._auto_2):behindInMarks op b=false:=by
 have e1:(op == CmpOp.In)=false:=by cases op <;> first | rfl | exact absurd rfl h
 have e2:(op == CmpOp.NotIn)=false:=by cases op <;> first | rfl | exact absurd rfl h2
 cases b <;> simp [behindInMarks,e1,e2]
theorem qe {op:CmpOp} {r:R2} (ho:OpR X (compareOp op) r) (ha:PE X a ta) (hb:PE X b tb) (hm:behindInMarks op b=false):PE X (.Compare a [op] [b] pos) (tOp r ta tb):=by
 intro pins s σ H Q I h
 exact wpAny_Compare1 (binT ha hb I h fun v u s2 x y H2 I2 rx ry q=>ho pins s2 σ H2 x y v u Q I2 rx ry q) hm
def z0z (t:TE):TT:=fun σ H Q=>t σ H fun x H'=>∃k,x=.bl k∧Q k H'
theorem zq {op:CmpOp} {r:R2} (ho:OpR X (compareOp op) r) (ha:PE X a ta) (hb:PE X b tb) (hm:behindInMarks op b=false):PT X (.Compare a [op] [b] pos) (z0z (tOp r ta tb)):=by
 intro pins s σ H Q I h
 refine wpAny_isTrue_Compare1 (thn (ha pins s σ H _ I h) fun v s1 ⟨x,H1,I1,r1,q1⟩=>thn (hb pins s1 σ H1 _ I1 q1) fun u s2 ⟨y,H2,I2,r2,q2⟩=>
  thn (ho pins s2 σ H2 x y v u _ I2 r1 r2 q2) fun c s3 ⟨z,H3,I3,r3,k,e,q3⟩=>?_) hm
 subst e
 cases r3
 exact wpAny_truthy_bool ⟨H3,I3,q3⟩
def z37 (r r':R2) (ta tb tc:TE):TE:=fun σ H Q=>ta σ H fun x H1=>tb σ H1 fun y H2=>r x y H2 fun z H3=>∃k,z=.bl k∧
 (if k=true then tc σ H3 fun w' H4=>r' y w' H4 Q else Q (.bl false) H3)
theorem ZX {op op':CmpOp} {r r':R2} (ho:OpR X (compareOp op) r) (ho':OpR X (compareOp op') r') (ha:PE X a ta) (hb:PE X b tb) (hc:PE X c tc)
  (hm:lastMarks [op,op'] [b,c]=false:=by with_unfolding_all rfl):PE X (.Compare a [op,op'] [b,c] pos) (z37 r r' ta tb tc):=by
 intro pins s σ H Q I h
 refine Compare_chain (thn (ha pins s σ H _ I h) fun v s1 ⟨x,H1,I1,r1,q1⟩=>chain_link (thn (hb pins s1 σ H1 _ I1 q1) fun u s2 ⟨y,H2,I2,r2,q2⟩=>
  thn (ho pins s2 σ H2 x y v u _ I2 r1 r2 q2) fun d s3 ⟨z,H3,I3,r3,k,e,q3⟩=>?_)) hm
 subst e
 cases r3
 refine wpAny_truthy_bool ?_
 cases k with
 | false=>exact ite_ff ⟨.bl false,H3,I3,rfl,q3⟩
 | true=>exact ite_tt (chain_last (thn (hc pins s3 σ H3 _ I3 q3) fun w' s4 ⟨z',H4,I4,r4,q4⟩=>ho' pins s4 σ H4 y z' u w' Q I4 r2 r4 q4))
theorem z2g {op op':CmpOp} {r r':R2} (ho:OpR X (compareOp op) r) (ho':OpR X (compareOp op') r') (ha:PE X a ta) (hb:PE X b tb) (hc:PE X c tc)
  (hm:lastMarks [op,op'] [b,c]=false:=by with_unfolding_all rfl):PT X (.Compare a [op,op'] [b,c] pos) (z0z (z37 r r' ta tb tc)):=by
 intro pins s σ H Q I h
 refine isTrue_chain (thn (ha pins s σ H _ I h) fun v s1 ⟨x,H1,I1,r1,q1⟩=>test_link (thn (hb pins s1 σ H1 _ I1 q1) fun u s2 ⟨y,H2,I2,r2,q2⟩=>
  thn (ho pins s2 σ H2 x y v u _ I2 r1 r2 q2) fun d s3 ⟨z,H3,I3,r3,k,e,q3⟩=>?_)) hm
 subst e
 cases r3
 refine wpAny_truthy_bool ?_
 cases k with
 | false=>
  obtain ⟨k',e',q'⟩:=q3
  cases e'
  exact ite_ff ⟨H3,I3,q'⟩
 | true=>
  refine ite_tt (test_last (thn (hc pins s3 σ H3 _ I3 q3) fun w' s4 ⟨z',H4,I4,r4,q4⟩=>thn (ho' pins s4 σ H4 y z' u w' _ I4 r2 r4 q4) fun d' s5 zz=>?_))
  obtain ⟨z2,H5,I5,r5,k2,e2,q5⟩:=zz
  subst e2
  cases r5
  exact wpAny_truthy_bool ⟨H5,I5,q5⟩
def TruV (K:ko) (x:V) (H:Hp) (k:Bool):Prop:=
 match x with
 | .non=>k=false
 | .bl b=>k=b
 | .int i=>k=(i != 0)
 | .str y=>y.length≤sizeLine∧k=((y.length:Int) != 0)
 | .byt y=>y.size≤sizeLine∧k=((y.size:Int) != 0)
 | .ref p=>(∃xs,SqL K H p xs∧k= !xs.isEmpty)∨(∃xs,SqT K H p xs∧k= !xs.isEmpty)∨∃kvs,H p=some (.dK kvs)∧k= !kvs.isEmpty
 | _=>False
theorem z0d {κ:Type} {kvs:List (κ × V)} {vs:List (κ × Value)} (r:KV kvs vs):(!vs.isEmpty)= !kvs.isEmpty:=by
 cases r <;> rfl
theorem ZI {xs:List V} {its:List Value} (r:Vals xs its):(!its.toArray.isEmpty)= !xs.isEmpty:=by
 cases r <;> simp
theorem ZH:(sizeLine:Nat) < 2 ^ 63:=by rw [sizeLine_eq];decide
theorem z4m:TruR X (fun x H Q=>∃k,TruV X.K x H k∧Q k H):=by
 intro pins s σ H x v Q I rx h
 obtain ⟨k,e,q⟩:=h
 have hl:=ZH
 have hs:sizeLine=16777216:=sizeLine_eq
 cases x with
 | non=>
  cases rx
  have e':k=false:=e
  subst e'
  exact truthy_none ⟨H,I,q⟩
 | bl b=>
  cases rx
  have e':k=b:=e
  subst e'
  exact wpAny_truthy_bool ⟨H,I,q⟩
 | int i=>
  obtain ⟨t,rfl⟩:=rx
  have e':k=(i != 0):=e
  subst e'
  exact PySem.P.truthy_int ⟨H,I,q⟩
 | str y=>
  obtain ⟨t,rfl⟩:=rx
  obtain ⟨hy,e'⟩:y.length≤sizeLine∧k=((y.length:Int) != 0):=e
  subst e'
  exact PySem.P.truthy_str (by lia) ⟨H,I.tok _,q⟩
 | byt y=>
  obtain ⟨t,rfl⟩:=rx
  obtain ⟨hy,e'⟩:y.size≤sizeLine∧k=((y.size:Int) != 0):=e
  subst e'
  exact PySem.W.truthy_bytes (by lia) ⟨H,I.tok _,q⟩
 | ref p=>
  cases rx
  have e':(∃xs,SqL X.K H p xs∧k= !xs.isEmpty)∨(∃xs,SqT X.K H p xs∧k= !xs.isEmpty)∨∃kvs,H p=some (.dK kvs)∧k= !kvs.isEmpty:=e
  rcases e' with ⟨xs,hx,e'⟩ | ⟨xs,hx,e'⟩ | ⟨kvs,hx,e'⟩
  ·subst e'
   obtain ⟨its,r,pl,hz⟩:=I.list hx
   have hlen:=r.length
   exact wpAny_truthy_list pl.isList (by simp only [ky];lia) ⟨H,I.tok _,by rw [ZI r];exact q⟩
  ·subst e'
   obtain ⟨its,r,pl,hz⟩:=I.tuple hx
   have hlen:=r.length
   exact truthy_tuple pl (by simp only [ky];lia) ⟨H,I.tok _,by rw [ZI r];exact q⟩
  ·subst e'
   obtain ⟨hz,hS,vs,r,m⟩:kvs.length≤sizeLine∧(p == sysModules)=false∧∃vs,KV kvs vs∧s.heap.DictOf (zD X.prog X.w) p vs:=I.hok p _ hx
   have hlen:kvs.length=vs.length:=Paired.length r
   exact wpAny_truthy_dict hS m (by lia) ⟨H,I.tok _,by rw [z0d r];exact q⟩
 | _=>exact (show False from e).elim
theorem Z2 (ha:PE X a ta) (he:∀whole,isTrue a X.env whole=(do let v ←whole;standAt a.pos;holding [v] (truthy v))):
  PT X a (fun σ H Q=>ta σ H fun x H'=>∃k,TruV X.K x H' k∧Q k H'):=by
 intro pins s σ H Q I h
 exact isTrue_plain (thn (ha pins s σ H _ I h) fun v s1 ⟨x,H1,I1,r1,q1⟩=>z4m pins s1 σ H1 x v Q I1 r1 q1) (he _)
theorem JX {x:V} {us:List Value} (r:Vals [x] us):∃u,us=[u]∧RelV x u:=by
 cases r with
 | cons r1 r2=>cases r2;exact ⟨_,rfl,r1⟩
theorem z3E {x y:V} {us:List Value} (r:Vals [x,y] us):∃u w',us=[u,w']∧RelV x u∧RelV y w':=by
 cases r with
 | cons r1 r2=>
  cases r2 with
  | cons r3 r4=>cases r4;exact ⟨_,_,rfl,r1,r3⟩
theorem z1Z (hc:X.calm=true):Zx X (.builtin "max") (fun xs H Q=>∃i j,xs=[.int i,.int j]∧Q (.int (if j > i then j else i)) H):=by
 intro pins s σ H xs us Q I r h
 obtain ⟨i,j,rfl,q⟩:=h
 obtain ⟨u,w',rfl,⟨t,rfl⟩,⟨t',rfl⟩⟩:=z3E r
 refine max_two_ints (I.ok.hd hc) fun h' tk k=>⟨_,H,I.kept k,?_,q⟩
 by_cases hj:j > i
 ·rw [kr hj,kr hj];exact ⟨_,rfl⟩
 ·rw [kq hj,kq hj];exact ⟨_,rfl⟩
theorem z1X (hc:X.calm=true):Zx X (.builtin "min") (fun xs H Q=>∃i j,xs=[.int i,.int j]∧Q (.int (if j < i then j else i)) H):=by
 intro pins s σ H xs us Q I r h
 obtain ⟨i,j,rfl,q⟩:=h
 obtain ⟨u,w',rfl,⟨t,rfl⟩,⟨t',rfl⟩⟩:=z3E r
 refine min_two_ints (I.ok.hd hc) fun h' tk k=>⟨_,H,I.kept k,?_,q⟩
 by_cases hj:j < i
 ·rw [kr hj,kr hj];exact ⟨_,rfl⟩
 ·rw [kq hj,kq hj];exact ⟨_,rfl⟩
end
end L2
namespace L2
open PySem PySem.Spec PyProof.Rows
structure ObjM (h:Heap) (x dx C:Addr) (mA:Str→Option Value):Prop where
 obj:h.get? x=some (PySem.W.instObj C dx)
 ns:h.Ns1 dx mA
 ne:dx≠x
theorem z1j {h:Heap} {dx:Addr} {mA:Str→Option Value} (n:h.Ns1 dx mA):∃od,h.get? dx=some od∧∀name,PySem.W.lookIn name od=some (mA name):=by
 obtain ⟨o,es,ep,ho,hd,hk,_,hm⟩:=n
 refine ⟨o,ho,fun name=>?_⟩
 have e:=hm name
 unfold nsFind findBy at e
 rw [←Array.find?_toList] at e
 unfold PySem.W.lookIn
 rw [hd]
 dsimp only
 split
 ·rename_i y q
  rw [q] at e
  exact congrArg some e
 ·rename_i q
  rw [q] at e
  have a:es.toList.any (·.refKey)=false:=by
   rw [List.any_eq_false]
   intro y hy
   obtain ⟨z,t,hkey⟩:=hk y (Array.mem_toList_iff.mp hy)
   simp [DictEntry.refKey,hkey]
  have a':¬es.toList.any (·.refKey)=true:=by rw [a];exact ka
  rw [kq a']
  exact congrArg some e
theorem ObjM.look {h:Heap} {x dx C:Addr} {mA:Str→Option Value} (I:ObjM h x dx C mA):∃od,PySem.W.InstAt h x (PySem.W.instObj C dx) C (some od)∧∀name,PySem.W.lookIn name od=some (mA name):=
 let ⟨od,ho,hl⟩:=z1j I.ns
 ⟨od,⟨I.obj,rfl,rfl,ho⟩,hl⟩
section
variable {prog:Program} {w:World} {A:Around} {E:Value→Shared→Prop} {s:Shared} {K:ko} {x dx C f:Addr} {mA:Str→Option Value} {name:Str} {v:Value}
end
theorem RelO.some_of {v:V} {o:Option Value} (r:RelO (some v) o):∃u,o=some u∧RelV v u:=by
 cases o with
 | none=>exact (show False from r).elim
 | some u=>exact ⟨u,rfl,r⟩
section
variable {P:Program} {w:World} {H H':Hp} {h h':Heap} {a C dx:Addr} {fs fs':List (Str × V)}
theorem z3X (hok:HOk P w H h) (e:H a=some (.ins C dx fs)):∃mA,ObjM h a dx C mA∧(∀f,RelO (fs.lookup f) (mA f))∧PySem.Within mA (fs.map (·.1))∧fs.length≤1000∧H dx=some (.own a):=by
 obtain ⟨d,z,ne,ob,mA,n,r,q⟩:=(show zN P w H h a (.ins C dx fs) from hok a _ e)
 exact ⟨mA,⟨ob,n,ne⟩,r,q,z,d⟩
end
structure Cls (K:ko) (C:Addr):Prop where
 pg:PySem.W.plainGet K C Str.empty=true
 hd:PySem.W.hasDictIn K C=true
 po:PySem.W.plainOver K C=true
 sa:PySem.W.findIn K (.ref C) "__setattr__"=some (some (.builtin "object.__setattr__"))
theorem Cls.get {K:ko} {C:Addr} (c:Cls K C) (f:Str):PySem.W.plainGet K C f=true:=c.pg
section
variable {X:Cx} {pins:List (Addr × Obj)} {σ:St} {H:Hp} {s:Shared} {a C dx:Addr} {fs:List (Str × V)} {f:Str} {v:V} {A:Around} {E:Value→Shared→Prop}
end
section
variable {X:Cx} {o e value:Expr} {f:Str} {pos pos' tpos:Pos} {ta tv:TE}
end
section
variable {X:Cx} {pins:List (Addr × Obj)} {σ:St} {H:Hp} {s:Shared} {A:Around} {E:Value→Shared→Prop} {Q:Value→Shared→Prop} {c:Value} {b:Bool}
inductive TyOf (K:ko) (H:Hp):V→Value→Prop where
 | non:TyOf K H .non (.type "NoneType")
 | bl (x:Bool):TyOf K H (.bl x) (.type "bool")
 | int (i:Int):TyOf K H (.int i) (.type "int")
 | str (x:Str):TyOf K H (.str x) (.type "str")
 | flt (x:UInt64):TyOf K H (.flt x) (.type "float")
 | lst {a:Addr} {xs:List V} (e:H a=some (.lst xs)):TyOf K H (.ref a) (.type "list")
 | frz {a:Addr} {o:Obj} {xs:List V} (e:H a=some (.frz o (.lst xs))):TyOf K H (.ref a) (.type "list")
 | tup {a:Addr} {xs:List V} (e:H a=some (.tup xs)):TyOf K H (.ref a) (.type "tuple")
 | dK {a:Addr} {kvs:List (Key × V)} (e:H a=some (.dK kvs)):TyOf K H (.ref a) (.type "dict")
 | dT {a:Addr} {kvs:List (List Key × V)} (e:H a=some (.dT kvs)):TyOf K H (.ref a) (.type "dict")
 | ins {a C dx:Addr} {fs:List (Str × V)} (e:H a=some (.ins C dx fs)) (cl:Cls K C) (ha:PySem.W.findIn K (.ref C) "__class__"=some (some (.builtin "object.__class__")))
   (hn:PySem.W.specialIn K (.builtin "object.__class__") "__get__"=some (some (.builtin "getset_descriptor.__get__"))) (htk:PySem.W.takesIn K (.builtin "object.__class__")=some true)
   (hm:PySem.W.mroIn K C (.type "object")=some true):TyOf K H (.ref a) (.ref C)
theorem z1r {x:V} {u t:Value} (I:Inv X pins σ H s) (rx:RelV x u) (ty:TyOf X.K H x t) (e:PySem.W.kitOne X.K t c=some b) (h:∀tk,Q (.bool b) { s with toks:=tk }):
  wpAny (model X.prog X.w) A (call (.builtin "isinstance") [u,c]) Q E s:=by
 cases ty with
 | non=>cases (show u=Value.none from rx);exact PySem.W.kia_one PySem.W.kitx_none I.kIn True.intro e (fun z=>nomatch z) h
 | bl y=>cases (show u=Value.bool y from rx);exact PySem.W.kia_one PySem.W.kitx_bool I.kIn True.intro e (fun z=>nomatch z) h
 | int i=>obtain ⟨t,q⟩:=(show ∃t,u=Value.int i t from rx);cases q;exact PySem.W.kia_one PySem.W.kitx_int I.kIn True.intro e (fun z=>nomatch z) h
 | str y=>obtain ⟨t,q⟩:=(show ∃t,u=Value.str y t from rx);cases q;exact PySem.W.kia_one PySem.W.kitx_str I.kIn True.intro e (fun z=>nomatch z) h
 | flt y=>obtain ⟨t,q⟩:=(show ∃t,u=Value.float y t from rx);cases q;exact PySem.W.kia_one PySem.W.kitx_float I.kIn True.intro e (fun z=>nomatch z) h
 | @lst a xs ea=>
  cases (show u=Value.ref a from rx)
  obtain ⟨_,_,n,_,h1⟩:=(show zN X.prog X.w H s.heap a (.lst xs) from I.hok a _ ea)
  exact PySem.W.kia_one PySem.W.kitx_list I.kIn ⟨_,h1,rfl⟩ e (fun z=>nomatch z) h
 | @frz a ob xs ea=>
  cases (show u=Value.ref a from rx)
  obtain ⟨_,_,_,n,_,h1⟩:=(show zN X.prog X.w H s.heap a (.frz ob (.lst xs)) from I.hok a _ ea)
  exact PySem.W.kia_one PySem.W.kitx_list I.kIn ⟨_,h1,rfl⟩ e (fun z=>nomatch z) h
 | @tup a xs ea=>
  cases (show u=Value.ref a from rx)
  obtain ⟨_,_,_,p⟩:=(show zN X.prog X.w H s.heap a (.tup xs) from I.hok a _ ea)
  obtain ⟨o,h1,h2,_⟩:=p
  exact PySem.W.kia_one PySem.W.kitx_tuple I.kIn ⟨o,h1,h2⟩ e (fun z=>nomatch z) h
 | @dK a kvs ea=>
  cases (show u=Value.ref a from rx)
  obtain ⟨_,_,vs,_,p⟩:=(show zN X.prog X.w H s.heap a (.dK kvs) from I.hok a _ ea)
  obtain ⟨o,es,ep,h1,h2,_⟩:=p
  exact PySem.W.kia_one PySem.W.kitx_dict I.kIn ⟨o,h1,h2.1⟩ e (fun z=>nomatch z) h
 | @dT a kvs ea=>
  cases (show u=Value.ref a from rx)
  obtain ⟨_,_,xs,_,o,es,ep,h1,h2,_⟩:=(show zN X.prog X.w H s.heap a (.dT kvs) from I.hok a _ ea)
  exact PySem.W.kia_one PySem.W.kitx_dict I.kIn ⟨o,h1,h2.1⟩ e (fun z=>nomatch z) h
 | @ins a C dx fs ea cl ha hn htk hm=>
  cases (show u=Value.ref a from rx)
  obtain ⟨mA,O,_⟩:=z3X I.hok ea
  obtain ⟨od,J,_⟩:=O.look
  exact PySem.W.kia_one (PySem.W.kitx_own (cl.get _) cl.hd ha hn htk hm) I.kIn J e (fun z=>nomatch z) h
end
end L2
namespace L2
open PySem PySem.Spec PyProof.Rows
structure Room (k:Nat) (A:Around):Prop where
 hd:A.handled=none
 dp:A.depth+3 * k+5 < recursionLimit
 un:A.units+16 * k+200 < cLine
 gd:A.guards=some []
theorem Room.mono {j k:Nat} {A:Around} (r:Room k A) (h:j≤k):Room j A:=⟨r.hd,by have:=r.dp;lia,by have:=r.un;lia,r.gd⟩
theorem Room.deeper {k:Nat} {A:Around} (r:Room (k+1) A) (env:Env):Room k (A.deeper env):=
 ⟨r.hd,by have:=r.dp;show A.depth+1+3 * k+5 < _;lia,by have:=r.un;show A.units+3+16 * k+200 < _;lia,r.gd⟩
theorem Room.depth {k:Nat} {A:Around} (r:Room k A):A.depth < recursionLimit:=by have:=r.dp;lia
theorem Room.units {k:Nat} {A:Around} (r:Room k A):A.units+64 < cLine:=by have:=r.un;lia
theorem Room.units0 {k:Nat} {A:Around} (r:Room k A):A.units < cLine:=by have:=r.un;lia
abbrev tNil:TA:=fun _ H Q=>Q [] H
abbrev z4t (ta:TE) (tr:TA):TA:=fun σ H Q=>ta σ H fun x H1=>tr σ H1 fun xs H2=>Q (x :: xs) H2
section
variable {X:Cx} {e:Expr} {es:List Expr} {te:TE} {t:TA} {pos:Pos}
theorem z7:PA X [] tNil:=fun _ _ _ _ H Q I h=>Calls.spliced_nil ⟨[],H,I,.nil,h⟩
theorem z0 (ha:PE X e te) (hr:PA X es t) (hs:autoParam (starEach (e :: es) X.env=(false,eval e X.env) :: starEach es X.env) aR._auto_1):PA X (e :: es) (z4t te t):=by
 intro pos pins s σ H Q I h
 rw [hs]
 show wpAny _ _ (spliced ((false,eval e X.env) :: backTo pos (starEach es X.env))) _ _ s
 refine Calls.spliced_cons (thn (ha pins s σ H _ I h) fun u s1 zz=>?_)
 obtain ⟨x,H1,I1,r1,q1⟩:=zz
 exact thn (hr pos pins s1 σ H1 _ I1 q1) fun us s2 ⟨xs,H2,I2,r2,q2⟩=>⟨x :: xs,H2,I2,.cons r1 r2,q2⟩
def tTup (t:TA):TE:=fun σ H Q=>t σ H fun xs H1=>xs.length≤sizeLine∧∀p,H1 p=none→Q (.ref p) (upd H1 p (.tup xs))
def tLst (t:TA):TE:=fun σ H Q=>t σ H fun xs H1=>xs.length≤sizeLine∧∀p,H1 p=none→Q (.ref p) (upd H1 p (.lst xs))
theorem qz {x1} (h:PA X es t):PE X (.Tuple es x1 pos) (tTup t):=by
 intro pins s σ H Q I hq
 refine wpAny_Tuple_spliced (thn (h pos pins s σ H _ I hq) fun us s1 ⟨xs,H1,I1,r,z,q⟩=>⟨by rw [←r.length];exact z,?_⟩)
 have hf:H1 s1.heap.objs.size=none:=I1.hok.fresh (kc _)
 refine ⟨.ref s1.heap.objs.size,upd H1 s1.heap.objs.size (.tup xs),I1.laid (t':=s1.toks) (fun b u e=>Heap.get?_push_of_some _ e) (kc _) ?_,rfl,q _ hf⟩
 exact ⟨z,us,r,⟨_,Heap.get?_push_size _ rfl,rfl,_,rfl⟩⟩
theorem qr (h:PA X es t):PE X (.List es pos) (tLst t):=by
 intro pins s σ H Q I hq
 refine wpAny_List_spliced (thn (h pos pins s σ H _ I hq) fun us s1 ⟨xs,H1,I1,r,z,q⟩=>⟨by rw [←r.length];exact z,?_⟩)
 have hf:H1 s1.heap.objs.size=none:=I1.hok.fresh (kc _)
 refine ⟨.ref s1.heap.objs.size,upd H1 s1.heap.objs.size (.lst xs),I1.laid (t':=s1.toks) (fun b u e=>Heap.get?_push_of_some _ e) (kc _) ?_,rfl,q _ hf⟩
 exact ⟨z,us,0,r,Heap.get?_push_size _ rfl⟩
end
abbrev Sp:=List V→Hp→VK→XK→Prop
abbrev CXT:=List Env→Hp→Shared→XK→Value→Shared→Prop
structure Env0 (P:Program) (w:World) (K:ko) (mg:Str→Option Value) (base:Heap) (A:Around) (outer:List Env) (s:Shared) (H:Hp):Prop where
 frames:A.frames=some outer
 mod:Mod K mg base
 bs:∀b o,base.get? b=some o→s.heap.get? b=some o∧H b=none
 bsz:base.objs.size≤s.heap.objs.size
 funs:s.heap.FunFrames base outer
 frf:∀b∈frs outer,H b=none
 hok:HOk P w H s.heap
 bare:AllBare s.gens
def CE (outer:List Env) (P:Program) (w:World) (H:Hp) (s:Shared) (Q:VK) (u:Value) (s':Shared):Prop:=
 ∃v H',s'.os=s.os∧AllBare s'.gens∧Un (frs outer) [] H H' s.heap s'.heap∧HOk P w H' s'.heap∧RelV v u∧Q v H'
def CR (CX:CXT) (outer:List Env) (P:Program) (w:World) (H:Hp) (s:Shared) (Q:VK) (E:XK) (r:Result) (s':Shared):Prop:=
 match r with
 | .ok (.ret u)=>CE outer P w H s Q u s'
 | .ok _=>False
 | .error e=>CX outer H s E e s'
structure FnOk (P:Program) (w:World) (K:ko) (mg:Str→Option Value) (base:Heap) (CX:CXT) (k:Nat) (f:Addr) (fd:FuncData) (ps:List Str) (sp:Sp):Prop where
 len:∀vs H Q E,sp vs H Q E→vs.length=ps.length
 run:∀(A:Around) (outer:List Env) (s:Shared) (H:Hp) (args:Args) (us:List Value) (vs:List V) (Q:VK) (E:XK),Room k A→Env0 P w K mg base A outer s H→BindsTo s fd args (ps.zip us)→Vals vs us→sp vs H Q E→
  codeAny (model P w) A (.call (.ref f) args) (CR CX outer P w H s Q E) s
theorem FnOk.imp {P:Program} {w:World} {K:ko} {mg:Str→Option Value} {base:Heap} {CX:CXT} {k:Nat} {f:Addr} {fd:FuncData} {ps:List Str} {sp sp':Sp} (F:FnOk P w K mg base CX k f fd ps sp)
  (h:∀vs H Q E,sp' vs H Q E→sp vs H Q E):FnOk P w K mg base CX k f fd ps sp':=
 ⟨fun vs H Q E q=>F.len vs H Q E (h _ _ _ _ q),fun A outer s H args us vs Q E hr he hb hv hs=>F.run A outer s H args us vs Q E hr he hb hv (h _ _ _ _ hs)⟩
section
variable {X:Cx} {pins:List (Addr × Obj)} {σ:St} {H:Hp} {s s':Shared}
theorem Inv.env0 (I:Inv X pins σ H s):Env0 X.prog X.w X.K X.mg X.base X.A X.stack s H:=
 ⟨I.ok.frames,I.ok.mod,I.bs,km I.ok.bsz I.sz,I.stack,I.stkFree,I.hok,I.bare⟩
theorem Inv.after {Q:VK} {u:Value} (I:Inv X pins σ H s) (h:CE X.stack X.prog X.w H s Q u s'):EP X pins σ Q u s':=by
 obtain ⟨v,H',os,bare,un,hok,r,q⟩:=h
 obtain ⟨hh,g,d,t,os'⟩:=s'
 obtain rfl:os'=s.os:=os
 exact ⟨v,H',I.call (h':=hh) (g':=g) (d':=d) (t':=t) (ch:=[]) un hok bare (fun b z=>absurd z (by simp)),r,q⟩
end
abbrev z2b (sp:Sp) (dvs:List V) (E:XK) (t:TA):TE:=fun σ H Q=>t σ H fun vs H1=>sp (vs++dvs) H1 Q E
def ZB (K:ko) (fd:FuncData) (ps:List Str) (ds:List Value):Prop:=
 ∀(s:Shared) (us:List Value),K.In s.heap→(us++ds).length=ps.length→BindsTo s fd ⟨us,[]⟩ (ps.zip (us++ds))
theorem ZB.all {K:ko} {fd:FuncData} {ps:List Str} (h:∀us:List Value,us.length=ps.length→bindArgs fd ⟨us,[]⟩=pure (ps.zip us)):ZB K fd ps []:=fun s us _ hl=>by
 rw [kN] at hl ⊢
 exact .of_eq (h us hl)
def z24 (CX:CXT) (X:Cx) (E:XK):Prop:=∀(pins:List (Addr × Obj)) (σ:St) (H:Hp) (s:Shared) (e:Value) (s':Shared),Inv X pins σ H s→CX X.stack H s E e s'→X.xe e s'
section
variable {X:Cx} {CX:CXT} {k:Nat} {f C:Addr} {fd:FuncData} {ps:List Str} {sp:Sp} {dvs:List V} {ds:List Value} {E:XK} {x m:Str} {p pos apos:Pos} {e o:Expr} {es:List Expr} {ta:TE} {t:TA}
theorem z3i {pins:List (Addr × Obj)} {σ:St} {H:Hp} {s:Shared} {Q:VK} {us:List Value} {vs:List V} (F:FnOk X.prog X.w X.K X.mg X.base CX k f fd ps sp) (hr:Room k X.A) (hb:ZB X.K fd ps ds) (hd:Vals dvs ds) (hx:z24 CX X E)
  (I:Inv X pins σ H s) (r:Vals vs us) (h:sp (vs++dvs) H Q E):wpAny (model X.prog X.w) X.A (call (.ref f) us) (EP X pins σ Q) X.xe s:=by
 have r2:Vals (vs++dvs) (us++ds):=r.append hd
 have hl:(us++ds).length=ps.length:=by rw [←r2.length];exact F.len _ _ _ _ h
 refine wpAny_call (codeAny_mono (F.run X.A X.stack s H ⟨us,[]⟩ (us++ds) (vs++dvs) Q E hr I.env0 (hb s us I.kIn hl) r2 h) fun r s' hq=>?_)
 cases r with
 | error e=>exact hx pins σ H s e s' I hq
 | ok fl=>
  cases fl with
  | ret u=>exact I.after hq
  | next=>exact False.elim hq
  | brk=>exact False.elim hq
  | cont=>exact False.elim hq
theorem z18 (F:FnOk X.prog X.w X.K X.mg X.base CX k f fd ps sp) (hr:Room k X.A) (hg:Gl X x) (hm:X.mg x=some (.ref f)) (hk:PySem.W.keepIn X.K (.ref f)=true) (hb:ZB X.K fd ps ds) (hd:Vals dvs ds) (hx:z24 CX X E)
  (ha:PA X (e :: es) t) (hdb:autoParam ((x == ("__debug__":Str))=false) aR._auto_2) (he:autoParam (starEach (e :: es) X.env=(false,eval e X.env) :: starEach es X.env) aR._auto_1) (hpl:autoParam ((backTo pos (starEach es X.env)).any (·.1)=false) aR._auto_1):
  PE X (.Call (.Name x p) (e :: es) [] pos) (z2b sp dvs E t):=by
 intro pins s σ H Q I h
 refine wpAny_Call_Name_kw (Zo I hg hm ?_ hdb)
 refine PySem.W.callWith_K (h₀:=X.base) I.ok.mod.kin hk (thn (ha pos pins s σ H _ I h) fun us s1 ⟨vs,H1,I1,r,q⟩=>⟨I1.kIn,?_⟩) he hpl
 exact z3i F hr hb hd hx I1 r q
end
section
variable {X:Cx} {CX:CXT} {k:Nat} {f C:Addr} {fd:FuncData} {ps ks:List Str} {sp:Sp} {E:XK} {x m:Str} {p pos apos kpos:Pos} {e o:Expr} {es:List Expr} {kws:List Keyword} {te ta:TE} {t tk:TA} {nm:Option Str}
variable {g:List Value→List Value→List Value} {gV:List V→List V→List V}
end
structure zh (N P:List Str) (sc:Scope):Prop where
 kind:sc.kind=.function
 co:sc.isCoroutine=false
 gen:sc.isGenerator=false
 nd:N.Nodup
 pre:N.take P.length=P
 par:∀x∈P,sc.names.lookup x=some .local∨sc.names.lookup x=some .cell
 nofree:∀y∈sc.names,y.2≠.free
theorem QP {kindOf:Str→Option NameKind} {x:Str}:∀{binds:List (Str × Value)} {m:Str→Option Value},(∀v,(x,v)∉binds)→bindL kindOf binds m x=m x
 | [],_,_=>rfl
 | (n,v) :: r,m,h=>by
  unfold bindL
  rw [QP fun w hw=>h w (kK _ hw)]
  split
  ·have:x≠n:=by rintro rfl;exact h v kJ
   simp [this]
  ·rfl
theorem QR {kindOf:Str→Option NameKind} {x:Str}:∀{binds:List (Str × Value)} {m:Str→Option Value},(∀v,(x,v)∉binds)→bindC kindOf binds m x=m x
 | [],_,_=>rfl
 | (n,v) :: r,m,h=>by
  unfold bindC
  rw [QR fun w hw=>h w (kK _ hw)]
  split
  ·rfl
  ·have:x≠n:=by rintro rfl;exact h v kJ
   simp [this]
theorem QQ {kindOf:Str→Option NameKind} {x:Str} {v:Value}:∀{P:List Str} {vs:List Value} {i:Nat} {m:Str→Option Value},P.Nodup→P[i]?=some x→vs[i]?=some v→kindOf x=some .local→
  bindL kindOf (P.zip vs) m x=some v
 | [],_,_,_,_,h,_,_=>by simp at h
 | _ :: _,[],_,_,_,_,h,_=>by simp at h
 | p :: P,w :: vs,0,m,nd,h1,h2,hk=>by
  simp at h1 h2;subst h1;subst h2
  show bindL kindOf ((p,w) :: P.zip vs) m p=_
  unfold bindL
  rw [QP fun v hv=>(List.nodup_cons.mp nd).1 (List.of_mem_zip hv).1,kr hk]
  simp
 | p :: P,w :: vs,i+1,m,nd,h1,h2,hk=>by
  show bindL kindOf ((p,w) :: P.zip vs) m x=_
  unfold bindL
  exact QQ (i:=i) (List.nodup_cons.mp nd).2 (by simpa using h1) (by simpa using h2) hk
theorem QS {kindOf:Str→Option NameKind} {x:Str} {v:Value}:∀{P:List Str} {vs:List Value} {i:Nat} {m:Str→Option Value},P.Nodup→P[i]?=some x→vs[i]?=some v→kindOf x≠some .local→
  bindC kindOf (P.zip vs) m x=some v
 | [],_,_,_,_,h,_,_=>by simp at h
 | _ :: _,[],_,_,_,_,h,_=>by simp at h
 | p :: P,w :: vs,0,m,nd,h1,h2,hk=>by
  simp at h1 h2;subst h1;subst h2
  show bindC kindOf ((p,w) :: P.zip vs) m p=_
  unfold bindC
  rw [QR fun v hv=>(List.nodup_cons.mp nd).1 (List.of_mem_zip hv).1,kq hk]
  simp
 | p :: P,w :: vs,i+1,m,nd,h1,h2,hk=>by
  show bindC kindOf ((p,w) :: P.zip vs) m x=_
  unfold bindC
  exact QS (i:=i) (List.nodup_cons.mp nd).2 (by simpa using h1) (by simpa using h2) hk
noncomputable def jh (N:List Str) (vs:List V):St:=vs.map some++List.replicate (N.length - vs.length) none
noncomputable def cxOf (CX:CXT) (P:Program) (w:World) (K:ko) (mg:Str→Option Value) (base:Heap) (N:List Str) (qual:Str) (scope:Scope) (f:Addr) (cd:Value) (A:Around) (outer:List Env) (s:Shared) (H:Hp) (E:XK):Cx where
 prog:=P
 w:=w
 K:=K
 mg:=mg
 base:=base
 A:=A.deeper (envOfC qual scope s.heap.objs.size f cd)
 N:=N
 s₀:=s
 H₀:=H
 env:=envOfC qual scope s.heap.objs.size f cd
 outer:=outer
 stack:=envOfC qual scope s.heap.objs.size f cd :: outer
 ex:=[]
 calm:=true
 fn:=fun _=>true
 pn:=[]
 xe:=fun e s'=>wpAny (model P w) (A.deeper (envOfC qual scope s.heap.objs.size f cd)) (leaving (envOfC qual scope s.heap.objs.size f cd) e) (fun _ s''=>CX outer H s E e s'') (fun e' s''=>CX outer H s E e' s'') s'
theorem JT {sc:Scope} {n:Nat} {x:Str} (h:sc.names.lookup x=some .cell):∃c,(cellsFrom n sc.names []).lookup x=some c:=by
 have q:=PySem.W.cellsFrom_some sc.names n [] (.inl h)
 exact Option.isSome_iff_exists.mp q
theorem z1s {CX:CXT} {P:Program} {w:World} {K:ko} {mg:Str→Option Value} {base:Heap} {N ps:List Str} {qual:Str} {scope:Scope} {f:Addr} {cd:Value} {A:Around} {outer:List Env} {s s1:Shared} {H:Hp} {E:XK} {us:List Value} {vs:List V}
  (S:zh N ps scope) (hd:A.handled=none) (e0:Env0 P w K mg base A outer s H) (hl:vs.length=ps.length) (r:Vals vs us)
  (x:InCallC s s.heap.objs.size (bindL (envOfC qual scope s.heap.objs.size f cd).kindOf (ps.zip us) fun _=>none) (cellsFrom (s.heap.objs.size+1) scope.names []) (bindC (envOfC qual scope s.heap.objs.size f cd).kindOf (ps.zip us) fun _=>none) s1):
  Inv (cxOf CX P w K mg base N qual scope f cd A outer s H E) [] (jh N vs) H s1:=by
 have hpl:ps.length≤N.length:=by have:=congrArg List.length S.pre;rw [List.length_take] at this;lia
 obtain ⟨h1,tk,rfl,hk⟩:=x.done
 have noA:∀b:Addr,b∉(cxOf CX P w K mg base N qual scope f cd A outer s H E).ex:=fun b z=>absurd (show b∈([]:List Addr) from z) (by simp)
 refine ⟨⟨e0.mod,S.kind,rfl,rfl,kc _,fun y z c h1 h2=>?_,fun y hy=>?_,fun y c _ h=>?_,fun _=>hd,Around.frames_deeper e0.frames,.inr ⟨rfl,rfl⟩,fun b z=>absurd z (noA b),e0.bs,e0.bsz,fun b _ _=>noA b,fun b z=>absurd z (noA b),e0.funs,e0.frf⟩,
  rfl,e0.bare,Un.kept hk,⟨_,x.toInCall.ns,fun i y v h1 h2 h3=>?_⟩,fun y c h=>⟨_,x.cell y c h⟩,e0.hok.fresh (kc _),fun y c h=>?_,fun p hp=>absurd (show p∈([]:List (Addr × Obj)) from hp) (by simp),e0.hok.kept hk,?_⟩
 ·exact name_of_addr x.apart (PySem.mem_of_lookup h1) (PySem.mem_of_lookup h2)
 ·have hy:scope.names.lookup y=some .cell∨scope.names.lookup y=some .free:=hy
  rcases hy with hy | hy
  ·exact JT hy
  ·exact absurd rfl (S.nofree _ (PySem.mem_of_lookup hy))
 ·exact Nat.le_of_lt (x.above y c (PySem.mem_of_lookup h))
 ·have hi:i < vs.length:=by
   unfold jh at h2
   by_cases hi:i < vs.length
   ·exact hi
   ·rw [ya (by simpa using hi)] at h2
    rw [List.getElem?_replicate] at h2
    split at h2 <;> cases h2
  have ha:vs[i]?=some v:=by
   unfold jh at h2
   rw [kZ (by simpa using hi),List.getElem?_map] at h2
   cases e:vs[i]? with
   | none=>rw [e] at h2;cases h2
   | some a=>rw [e] at h2;cases h2;rfl
  obtain ⟨u,hu,rv⟩:=r.get ha
  have hp:ps[i]?=some y:=by
   rw [←S.pre,List.getElem?_take_of_lt (by lia)];exact h1
  have ndP:ps.Nodup:=by rw [←S.pre];exact S.nd.sublist (List.take_sublist _ _)
  refine ⟨u,rv,?_⟩
  rcases S.par y (kA hp) with k | k
  ·exact .inl ⟨k,QQ ndP hp hu k⟩
  ·obtain ⟨c,e⟩:=JT (n:=s.heap.objs.size+1) k
   refine .inr ⟨.inl k,c,e,?_⟩
   have q:=x.cell y c e
   rw [QS ndP hp hu (by show scope.names.lookup y≠_;rw [k];decide)] at q
   exact q
 ·exact e0.hok.fresh (Nat.le_of_lt (x.above y c (PySem.mem_of_lookup h)))
 ·unfold jh
  show _=N.length
  rw [kh,kg,List.length_replicate]
  lia
theorem z5a {CX:CXT} {P:Program} {w:World} {K:ko} {mg:Str→Option Value} {base:Heap} {k:Nat} {f:Addr} {name qual:Str} {params:Arguments} {body:List Stmt} {scope:Scope} {dV kV doc pm cdv ct oc:Value} {an od:Option Addr}
  {osl:Array (Option Value)} {N ps:List Str} {sp:Sp} (lk:K.lookup f=some ⟨oc,od,.func (PySem.W.fnOf name qual params body scope dV kV doc pm an cdv ct),osl⟩) (hcd:PySem.W.codeIn K cdv qual=true) (S:zh N ps scope)
  (len:∀vs H Q E,sp vs H Q E→vs.length=ps.length)
  (hbody:∀(A:Around) (outer:List Env) (s:Shared) (H:Hp) (vs:List V) (Q:VK) (E:XK),Room k (A.deeper (envOfC qual scope s.heap.objs.size f cdv))→sp vs H Q E→
   ∃t,PSs (cxOf CX P w K mg base N qual scope f cdv A outer s H E) body t∧t { nx:=fun _ H'=>Q .non H',rt:=Q } (jh N vs) H):
  FnOk P w K mg base CX (k+1) f (PySem.W.fnOf name qual params body scope dV kV doc pm an cdv ct) ps sp:=by
 refine ⟨len,fun A outer s H args us vs Q E hr e0 hb r hsp=>?_⟩
 have hl:=len _ _ _ _ hsp
 have KX:K.In s.heap:=e0.mod.kin.keeps fun b o e=>(e0.bs b o e).1
 have lim:s.heap.NoLimit:=e0.mod.nolimit.keeps fun b o e=>(e0.bs b o e).1
 have hkind:∀y∈ps.zip us,scope.names.lookup y.1=some .local∨(scope.names.lookup y.1=some .cell∧((cellsFrom (s.heap.objs.size+1) scope.names []).lookup y.1).isSome=true):=fun ⟨n,v⟩ hy=>by
  rcases S.par n (List.of_mem_zip hy).1 with q | q
  ·exact .inl q
  ·exact .inr ⟨q,PySem.W.cellsFrom_some _ _ _ (.inl q)⟩
 refine codeAny_call_function hr.depth (KX _ _ lk) rfl S.co S.gen rfl (PySem.W.codeRec_of KX hcd) (hb _ _ _ _ ?_)
 refine wpAny_newFunctionEnv_cells S.kind hkind fun env he s1 x=>?_
 subst he
 refine ⟨lim.keeps x.toInCall.keep,codeAny_func ?_⟩
 obtain ⟨t,ht,hq⟩:=hbody A outer s H vs Q E (hr.deeper _) hsp
 have I:Inv (cxOf CX P w K mg base N qual scope f cdv A outer s H E) [] (jh N vs) H s1:=z1s S hr.hd e0 hl r x
 refine wpAny_mono (ht [] s1 (jh N vs) H _ I hq) (fun fl s' hs=>?_) fun e s' hs=>hs
 have fin:∀{σ':St} {H':Hp} {v:V} {u:Value},Inv (cxOf CX P w K mg base N qual scope f cdv A outer s H E) [] σ' H' s'→RelV v u→Q v H'→CE outer P w H s Q u s':=
  fun {σ' H' v u} J rv q=>⟨v,H',J.os,J.bare,J.base,J.hok,rv,q⟩
 cases fl with
 | ret u=>
  obtain ⟨v,σ',H',J,rv,q⟩:=hs
  exact fin J rv q
 | next=>
  obtain ⟨σ',H',J,q⟩:=hs
  exact fin (v:=V.non) (u:=Value.none) J rfl q
 | brk=>
  obtain ⟨_,_,_,q⟩:=hs
  exact False.elim q
 | cont=>
  obtain ⟨_,_,_,q⟩:=hs
  exact False.elim q
end L2
namespace L2
open PySem PySem.Spec PyProof.Rows
section
variable {X:Cx} {x:Str} {p pos:Pos} {e:Expr} {es:List Expr} {t:TA} {id T:String} {r:List V→Hp→VK→Prop}
def tCB (r:List V→Hp→VK→Prop) (t:TA):TE:=fun σ H Q=>t σ H fun vs H1=>r vs H1 Q
theorem zl (hc:Zx X (.builtin id) r) (hg:Gl X x) (hm:X.mg x=none) (hv:bootBuiltins x=some (.builtin id)) (ha:PA X (e :: es) t) (hn:autoParam (x≠"__name__") aR._auto_2) (hdb:autoParam ((x == ("__debug__":Str))=false) aR._auto_2)
  (he:autoParam (starEach (e :: es) X.env=(false,eval e X.env) :: starEach es X.env) aR._auto_1) (hpl:autoParam ((backTo pos (starEach es X.env)).any (·.1)=false) aR._auto_1):PE X (.Call (.Name x p) (e :: es) [] pos) (tCB r t):=by
 intro pins s σ H Q I h
 refine wpAny_Call_Name_kw (jP I hg hm hv ?_ hn hdb)
 exact PyProof.Rows.callWith_builtin1 (thn (ha pos pins s σ H _ I h) fun us s1 ⟨vs,H1,I1,r1,q1⟩=>hc pins s1 σ H1 vs us Q I1 r1 q1) he hpl
theorem Qq (hc:Zx X (.type T) r) (hg:Gl X x) (hm:X.mg x=none) (hv:bootBuiltins x=some (.type T)) (ha:PA X (e :: es) t) (hn:autoParam (x≠"__name__") aR._auto_2) (hdb:autoParam ((x == ("__debug__":Str))=false) aR._auto_2)
  (he:autoParam (starEach (e :: es) X.env=(false,eval e X.env) :: starEach es X.env) aR._auto_1) (hpl:autoParam ((backTo pos (starEach es X.env)).any (·.1)=false) aR._auto_1):PE X (.Call (.Name x p) (e :: es) [] pos) (tCB r t):=by
 intro pins s σ H Q I h
 refine wpAny_Call_Name_kw (jP I hg hm hv ?_ hn hdb)
 exact PyProof.Rows.callWith_type1 (thn (ha pos pins s σ H _ I h) fun us s1 ⟨vs,H1,I1,r1,q1⟩=>hc pins s1 σ H1 vs us Q I1 r1 q1) he hpl
end
end L2
namespace HT
open PySem PyProof.Rows
section
open PySem.SeqAt
open PySem.AutoSeq1 (wpAny_loadPart')
open PySem.MeetsSeq PySem.MeetsSeq2 PySem.MeetsSeq3
end
section
variable {prog:Program} {w:World} {A:Around} {E:Value→Shared→Prop} {s:Shared}
theorem cat_tup {t b:Addr} {vs ws:List Value} {Q:Value→Shared→Prop} (ht:IsTup s.heap t vs.toArray) (hb:IsTup s.heap b ws.toArray) (hv:vs≠[])
  (h1:ws=[]→Q (.ref t) s) (h2:ws≠[]→Q (.ref s.heap.objs.size) { s with heap:=s.heap.push { cls:=.type "tuple",data:=.seq (vs++ws).toArray } })
  (hsz:vs.length+ws.length≤sizeLine):wpAny (model prog w) A (binaryOp .Add (.ref t) (.ref b)) Q E s:=by
 obtain ⟨⟨cls,dd,data,sl⟩,ho,hc,n,hd⟩:=id ht
 obtain ⟨⟨cls2,dd2,data2,sl2⟩,ho2,hc2,n2,hd2⟩:=id hb
 simp only at hc hd hc2 hd2
 subst hc hd hc2 hd2
 have e:vs.toArray++ws.toArray=(vs++ws).toArray:=by simp
 by_cases hw:ws=[]
 ·exact concat_meets ⟨_,ho,rfl⟩ ⟨_,ho2,rfl⟩ noFill_tuple_add seq_tuple_add PySem.F.slot_tuple_add PySem.F.entry_tuple_add (PySem.F.args_tuple_add_2 _ _)
   (tuple_addW1 t b vs.toArray ws.toArray n n2 dd dd2 sl sl2 (by simpa using hv) (by simp [hw])) ⟨ho,ho2,h1 hw⟩
 ·refine concat_meets ⟨_,ho,rfl⟩ ⟨_,ho2,rfl⟩ noFill_tuple_add seq_tuple_add PySem.F.slot_tuple_add PySem.F.entry_tuple_add (PySem.F.args_tuple_add_2 _ _)
   (tuple_addW2 t b vs.toArray ws.toArray n n2 dd dd2 sl sl2 (by simpa using hv) (by simpa using hw) (by rw [ky,ky];exact hsz)) ⟨ho,ho2,?_⟩
  rw [e]
  exact h2 hw
noncomputable def sIx (n d:Nat):Option Int→Nat
 | none=>d
 | some v=>if v < 0 then (v+(n:Int)).toNat else min v.toNat n
theorem sIx_nat (n d k:Nat):sIx n d (some (k:Int))=min k n:=by
 show (if (k:Int) < 0 then ((k:Int)+(n:Int)).toNat else min (k:Int).toNat n)=min k n
 rw [kq (by lia),kR]
theorem z4C (n d:Nat) (hd:d≤n) (o:Option Int):sIx n d o≤n:=by
 cases o with
 | none=>exact hd
 | some v=>
  show (if v < 0 then (v+(n:Int)).toNat else min v.toNat n)≤n
  by_cases hv:v < 0
  ·rw [kr hv];lia
  ·rw [kq hv];exact Nat.min_le_right _ _
theorem z1W (v:Int) (n d:Nat):(if v < 0 then max (v+(n:Int)) 0 else min v (n:Int))=((sIx n d (some v):Nat):Int):=by
 show (if v < 0 then max (v+(n:Int)) 0 else min v (n:Int))=(((if v < 0 then (v+(n:Int)).toNat else min v.toNat n):Nat):Int)
 by_cases hv:v < 0
 ·simp only [kr hv];lia
 ·simp only [kq hv];lia
theorem z0u (lo hi:Option Int) (n:Nat):Builtin.Slice.sliceAdjust lo hi 1 (n:Int)=(((sIx n 0 lo:Nat):Int),((sIx n n hi:Nat):Int)):=by
 have h1:¬((1:Int) < 0):=by lia
 unfold Builtin.Slice.sliceAdjust
 simp only [h1,if_false]
 refine Prod.ext ?_ ?_
 ·cases lo with
  | none=>rfl
  | some v=>exact z1W v n 0
 ·cases hi with
  | none=>rfl
  | some v=>exact z1W v n n
theorem z02 (i j:Nat):Builtin.Slice.slicePlaces (i:Int) (j:Int) 1=j - i:=by
 unfold Builtin.Slice.slicePlaces
 have h1:(1:Int) > 0:=by lia
 simp only [h1,if_true,Int.ediv_one]
 split <;> lia
theorem ZG {v:Value} {o:Option Int} {Q:Option Int→Shared→Prop} (p:IsPart v o) (h:Q o s):wpAny (model prog w) A (Builtin.Slice.slicePartIndex v) Q E s:=by
 cases p with
 | none=>exact slicePart_none h
 | int i t=>exact slicePart_int h
theorem jU {sl:Addr} {vl vu:Value} {lo hi:Option Int} {n:Nat} {Q:Int × Int × Nat→Shared→Prop} (hs:s.heap.IsSliceOf sl vl vu .none) (pl:IsPart vl lo) (pu:IsPart vu hi)
  (h:Q (((sIx n 0 lo:Nat):Int),1,sIx n n hi - sIx n 0 lo) s):wpAny (model prog w) A (Builtin.Slice.sliceApplied (.ref sl) (pure (n:Int))) Q E s:=by
 obtain ⟨os,hos,hcs,hds⟩:=id hs
 unfold Builtin.Slice.sliceApplied Builtin.Slice.sliceFields
 refine wpAny_bind (wpAny_bind (wpAny_field hos hds (x:=vl) rfl (wpAny_bind (wpAny_field hos hds (x:=vu) rfl (wpAny_bind (wpAny_field hos hds (x:=.none) rfl (wpAny_pure ?_)))))))
 refine wpAny_bind (slicePart_none ?_)
 show wpAny _ _ (if ((1:Int) == 0)=true then _ else _) _ _ s
 rw [kq (by decide)]
 refine wpAny_bind (ZG pl (wpAny_bind (ZG pu (wpAny_bind (wpAny_pure ?_)))))
 show wpAny _ _ (match Builtin.Slice.sliceAdjust lo hi 1 (n:Int) with | (lo,hi)=>pure (lo,(1:Int),Builtin.Slice.slicePlaces lo hi 1)) _ _ s
 rw [z0u lo hi n]
 show wpAny _ _ (pure (((sIx n 0 lo:Nat):Int),(1:Int),Builtin.Slice.slicePlaces ((sIx n 0 lo:Nat):Int) ((sIx n n hi:Nat):Int) 1)) _ _ s
 rw [z02]
 exact wpAny_pure h
theorem z2i (xs:Array Value) (i k:Nat):((List.range k).filterMap fun (m:Nat)=>xs[((i:Int)+(m:Int) * 1).toNat]?).toArray=((xs.toList.drop i).take k).toArray:=by
 have e:(fun (m:Nat)=>xs[((i:Int)+(m:Int) * 1).toNat]?)=fun m=>xs[i+m]?:=by
  funext m
  have:((i:Int)+(m:Int) * 1).toNat=i+m:=by lia
  rw [this]
 rw [e]
 have:=pick_run xs i k
 rw [List.filterMap_map] at this
 have e2:((fun x=>xs[x]?) ∘ fun x=>i+x)=fun m=>xs[i+m]?:=rfl
 rw [e2] at this
 rw [this]
theorem getItem_tuple_cut {t sl:Addr} {items:Array Value} {vl vu:Value} {lo hi:Option Int} {Q:Value→Shared→Prop} (ht:IsTup s.heap t items) (hs:s.heap.IsSliceOf sl vl vu .none) (pl:IsPart vl lo) (pu:IsPart vu hi)
  (hw:¬(sIx items.size 0 lo=0∧sIx items.size items.size hi=items.size))
  (h:Q (.ref s.heap.objs.size) { s with heap:=s.heap.push { cls:=.type "tuple",data:=.seq ((items.toList.drop (sIx items.size 0 lo)).take (sIx items.size items.size hi - sIx items.size 0 lo)).toArray } })
  (hsz:items.size≤sizeLine):wpAny (model prog w) A (getItem (.ref t) (.ref sl)) Q E s:=by
 have htake:sizeOk (.seq ((items.toList.drop (sIx items.size 0 lo)).take (sIx items.size items.size hi - sIx items.size 0 lo)).toArray):=by
  show ((items.toList.drop (sIx items.size 0 lo)).take (sIx items.size items.size hi - sIx items.size 0 lo)).toArray.size≤sizeLine
  rw [ky,List.length_take,List.length_drop,Array.length_toList]
  lia
 have hj:sIx items.size items.size hi≤items.size:=z4C _ _ (kc _) hi
 obtain ⟨os,hos,hcs,hds⟩:=id hs
 have hTs:s.TypeIs (.ref sl) "slice":=⟨os,hos,hcs⟩
 unfold getItem
 try with_reducible refine wpAny_holding ?_
 first | refine wpAny_bind (wpAny_pure ?_) | skip
 refine wpAny_bind (wpAny_sequenceKey ht.typeIs (by decide) ?_)
 refine wpAny_bind (wpAny_callSpecial?_slot (name:=Str.ofString "__getitem__") ht.typeIs PyProof.Rows.slot_tuple_getitem
  (wpAny_call_entry PyProof.Rows.slot_tuple_getitem ht.typeIs entry_tuple_getitem ?_ (args_tuple_getitem _ _)))
 show wpAny _ _ (Builtin.Tuple.tupleItemsOf (.ref t) >>= _) _ _ s
 refine wpAny_bind (tupleItemsOf_ ht ?_)
 refine wpAny_bind (wpAny_typeOf hTs ?_)
 rw [kr (by decide)]
 refine wpAny_bind (jU hs pl pu ?_)
 have hno:¬((((sIx items.size 0 lo:Nat):Int) == 0&&(1:Int) == 1&&(sIx items.size items.size hi - sIx items.size 0 lo) == items.size)=true):=by
  intro q
  rw [kW,kW] at q
  have q1:((sIx items.size 0 lo:Nat):Int)=0:=eq_of_beq q.1.1
  have q2:sIx items.size items.size hi - sIx items.size 0 lo=items.size:=eq_of_beq q.2
  exact hw ⟨by lia,by lia⟩
 show wpAny _ _ (if (((sIx items.size 0 lo:Nat):Int) == 0&&(1:Int) == 1&&(sIx items.size items.size hi - sIx items.size 0 lo) == items.size)=true then _ else _) _ _ s
 rw [kq hno,z2i]
 first
  | exact wpAny_bind (m:=Builtin.Tuple.tupleExact _) (wpAny_newObj_type (wpAny_pure ⟨_,rfl,wpAny_pure h⟩) htake)
  | exact wpAny_bind (m:=Builtin.Tuple.tupleExact _) (wpAny_newObj_type (wpAny_bind (wpAny_pure (wpAny_pure ⟨_,rfl,wpAny_pure h⟩))) htake)
  | exact wpAny_bind (wpAny_bind (m:=Builtin.Tuple.tupleExact _) (wpAny_newObj_type (wpAny_pure (wpAny_pure ⟨_,rfl,wpAny_pure h⟩)) htake))
  | exact wpAny_bind (wpAny_bind (m:=Builtin.Tuple.tupleExact _) (wpAny_newObj_type (wpAny_pure ⟨_,rfl,wpAny_pure h⟩) htake))
end
end HT
namespace L2
open PySem PySem.Spec PyProof.Rows
abbrev TO:=St→Hp→(Option Int→Hp→Prop)→Prop
def PO (X:Cx) (e:Option Expr) (t:TO):Prop:=
 ∀(pins:List (Addr × Obj)) (s:Shared) (σ:St) (H:Hp) (Q:Option Int→Hp→Prop),Inv X pins σ H s→t σ H Q→
  wpAny (model X.prog X.w) X.A (evalPart e X.env) (fun u s'=>∃o H',Inv X pins σ H' s'∧IsPart u o∧Q o H') X.xe s
def ZO:TO:=fun _ H Q=>Q none H
def z29 (t:TE):TO:=fun σ H Q=>t σ H fun x H1=>∃i,x=.int i∧Q (some i) H1
theorem ZJ {ns:List Int}:∀{us:List Value},Vals (ns.map V.int) us→IntsAre us ns:=by
 induction ns with
 | nil=>intro us r;rw [List.map_nil] at r;cases r;exact .nil
 | cons n ns ih=>
  intro us r
  rw [kM] at r
  cases r with
  | cons r1 r2=>
   obtain ⟨t,e⟩:=r1
   subst e
   exact .cons n t (ih r2)
section
variable {X:Cx} {e:Expr} {te:TE} {lo hi:Option Expr} {tl th:TO} {pos p2:Pos}
theorem J6:PO X none ZO:=by
 intro pins s σ H Q I h
 rw [evalPart_none]
 exact wpAny_pure ⟨none,H,I,.none,h⟩
theorem J5 (h:PE X e te):PO X (some e) (z29 te):=by
 intro pins s σ H Q I hw
 rw [evalPart_some]
 refine thn (h pins s σ H _ I hw) fun u s1 zz=>?_
 obtain ⟨x,H1,I1,r1,q1⟩:=zz
 obtain ⟨i,rfl,q⟩:=q1
 obtain ⟨t,rfl⟩:=r1
 exact ⟨some i,H1,I1,.int i t,q⟩
def SlR (X:Cx) (r:V→Option Int→Option Int→Hp→VK→Prop):Prop:=
 ∀(pins:List (Addr × Obj)) (s:Shared) (σ:St) (H:Hp) (x:V) (v vl vu:Value) (lo hi:Option Int) (sl:Addr) (Q:VK),Inv X pins σ H s→RelV x v→s.heap.IsSliceOf sl vl vu .none→IsPart vl lo→IsPart vu hi→r x lo hi H Q→
  ∃T id,typeLookup (.type T) "__getitem__"=pure (some (.builtin id))∧s.TypeIs v T∧wpAny (model X.prog X.w) X.A (getItem v (.ref sl)) (EP X pins σ Q) X.xe s
def tSl (r:V→Option Int→Option Int→Hp→VK→Prop) (te:TE) (tl th:TO):TE:=fun σ H Q=>te σ H fun x H1=>tl σ H1 fun l H2=>th σ H2 fun u H3=>r x l u H3 Q
theorem ZW {r:V→Option Int→Option Int→Hp→VK→Prop} (hr:SlR X r) (he:PE X e te) (hl:PO X lo tl) (hu:PO X hi th):PE X (.Subscript e (.Slice lo hi none p2) pos) (tSl r te tl th):=by
 intro pins s σ H Q I h
 refine Subscript_ (thn (he pins s σ H _ I h) fun v s1 zz=>?_)
 obtain ⟨x,H1,I1,r1,q1⟩:=zz
 refine wpAny_Slice (thn (hl pins s1 σ H1 _ I1 q1) fun vl s2 ⟨l,H2,I2,pl,q2⟩=>thn (hu pins s2 σ H2 _ I2 q2) fun vu s3 zz=>?_)
 obtain ⟨u,H3,I3,pu,q3⟩:=zz
 rw [evalPart_none]
 refine wpAny_pure ?_
 have I4:Inv X pins σ H3 { s3 with heap:=s3.heap.push { cls:=.type "slice",data:=.fields #[vl,vu,.none] } }:=I3.kept (t':=s3.toks) fun b ob q=>Heap.get?_push_of_some _ q
 obtain ⟨T,id,hT,ht,hg⟩:=hr pins { s3 with heap:=s3.heap.push { cls:=.type "slice",data:=.fields #[vl,vu,.none] } } σ H3 x v vl vu l u s3.heap.objs.size Q I4 r1 (Heap.IsSliceOf.new ..) pl pu q3
 show wpAny (model X.prog X.w) X.A (subscriptTail e (.Slice lo hi none p2) v (.ref s3.heap.objs.size)) (EP X pins σ Q) X.xe { s3 with heap:=s3.heap.push { cls:=.type "slice",data:=.fields #[vl,vu,.none] } }
 exact tail_any (ops:=[.ref s3.heap.objs.size,v]) ht hT hg (by with_unfolding_all rfl)
noncomputable def cutV (xs:List V) (lo hi:Option Int):List V:=(xs.drop (HT.sIx xs.length 0 lo)).take (HT.sIx xs.length xs.length hi - HT.sIx xs.length 0 lo)
theorem Jl (xs:List V) (lo hi:Option Int):(cutV xs lo hi).length≤xs.length:=by
 unfold cutV
 rw [List.length_take,List.length_drop]
 lia
def rSlT (K:ko):V→Option Int→Option Int→Hp→VK→Prop:=fun x lo hi H Q=>∃a xs,x=.ref a∧SqT K H a xs∧
 ¬(HT.sIx xs.length 0 lo=0∧HT.sIx xs.length xs.length hi=xs.length)∧∀p,H p=none→Q (.ref p) (upd H p (.tup (cutV xs lo hi)))
theorem z3f:SlR X (rSlT X.K):=by
 intro pins s σ H x v vl vu lo hi sl Q I rx hs pl pu h
 obtain ⟨a,xs,rfl,hx,hw,q⟩:=h
 cases rx
 obtain ⟨its,r,ht,hz⟩:=I.tuple hx
 have hlen:its.toArray.size=xs.length:=by rw [ky];exact r.length.symm
 refine ⟨"tuple",_,PyProof.Rows.slot_tuple_getitem.lookup,ht.typeIs,?_⟩
 refine HT.getItem_tuple_cut ht hs pl pu (by rw [hlen];exact hw) ?_ (by rw [hlen];exact hz)
 rw [hlen]
 refine ⟨.ref s.heap.objs.size,_,I.laid (t':=s.toks) (o:=.tup (cutV xs lo hi)) (fun b ob q=>Heap.get?_push_of_some _ q) (kc _) ?_,rfl,q _ (I.hok.fresh (kc _))⟩
 exact ⟨km (Jl xs lo hi) hz,_,(r.drop (HT.sIx xs.length 0 lo)).take (HT.sIx xs.length xs.length hi - HT.sIx xs.length 0 lo),IsTup.new _ _⟩
def z5B (K:ko):R2:=fun x y H Q=>∃a b xs ys,x=.ref a∧y=.ref b∧SqT K H a xs∧SqT K H b ys∧xs≠[]∧xs.length+ys.length≤sizeLine∧
 (ys=[]→Q (.ref a) H)∧(ys≠[]→∀p,H p=none→Q (.ref p) (upd H p (.tup (xs++ys))))
theorem Vals.nil_iff {xs:List V} {us:List Value} (r:Vals xs us):us=[]↔xs=[]:=by
 cases r with
 | nil=>simp
 | cons _ _=>simp
theorem z1b:OpR X (binaryOp .Add) (z5B X.K):=by
 intro pins s σ H x y v u Q I rx ry h
 obtain ⟨a,b,xs,ys,rfl,rfl,ha,hb,hx,hz,q1,q2⟩:=h
 cases rx
 cases ry
 obtain ⟨its,r1,p1,_⟩:=I.tuple ha
 obtain ⟨its2,r2,p2,_⟩:=I.tuple hb
 refine HT.cat_tup p1 p2 (fun z=>hx (r1.nil_iff.mp z)) (fun z=>⟨.ref a,H,I,rfl,q1 (r2.nil_iff.mp z)⟩) (fun z=>?_) (by rw [←r1.length,←r2.length];exact hz)
 refine ⟨.ref s.heap.objs.size,_,I.laid (t':=s.toks) (o:=.tup (xs++ys)) (fun b ob q=>Heap.get?_push_of_some _ q) (kc _) ?_,rfl,q2 (fun w=>z (r2.nil_iff.mpr w)) _ (I.hok.fresh (kc _))⟩
 exact ⟨by rw [kh];exact hz,_,r1.append r2,IsTup.new _ _⟩
end
end L2
namespace L2
open PySem PySem.Spec PyProof.Rows
noncomputable def ixN (n:Nat) (i:Int):Option Nat:=if 0≤i then (if i < n then some i.toNat else none) else if -(n:Int)≤i then some (i+n).toNat else none
noncomputable def atI {α:Type} (xs:List α) (i:Int):Option α:=(ixN xs.length i).bind fun j=>xs[j]?
theorem z1q {n:Nat} {i:Int} {j:Nat} (h:ixN n i=some j):seqIndex? i n=some j∧j < n∧-(n:Int)≤i∧i < n:=by
 unfold ixN at h
 by_cases h0:0≤i
 ·rw [kr h0] at h
  by_cases h1:i < n
  ·rw [kr h1] at h
   have e:i.toNat=j:=ku h
   exact ⟨by rw [seqIndex_of h0 h1,e],by lia,by lia,h1⟩
  ·rw [kq h1] at h;cases h
 ·rw [kq h0] at h
  by_cases h1: -(n:Int)≤i
  ·rw [kr h1] at h
   have e:(i+n).toNat=j:=ku h
   exact ⟨by rw [seqIndex_neg (by lia) h1,e],by lia,h1,by lia⟩
  ·rw [kq h1] at h;cases h
theorem z22 {α:Type} {xs:List α} {i:Int} {v:α} (h:atI xs i=some v):∃j,seqIndex? i xs.length=some j∧xs[j]?=some v∧j < xs.length∧-(xs.length:Int)≤i∧i < xs.length:=by
 unfold atI at h
 cases e:ixN xs.length i with
 | none=>rw [e] at h;cases h
 | some j=>
  rw [e] at h
  obtain ⟨h1,h2,h3,h4⟩:=z1q e
  exact ⟨j,h1,h,h2,h3,h4⟩
theorem zj {α:Type} {xs:List α} {j:Nat} {v:α} (h:xs[j]?=some v):atI xs (j:Int)=some v:=by
 have hj:j < xs.length:=(kd.mp h).1
 have e:ixN xs.length (j:Int)=some j:=by
  unfold ixN
  rw [kr (by lia),kr (by lia)];simp
 unfold atI;rw [e];exact h
theorem Qf {α:Type} (xs:List α) (v:α):atI (xs++[v]) (-1)=some v:=by
 have hl:(xs++[v]).length=xs.length+1:=by simp
 have e:ixN (xs++[v]).length (-1)=some xs.length:=by
  unfold ixN
  rw [hl,kq (by decide),kr (by lia)]
  congr 1
  lia
 unfold atI
 rw [e]
 show (xs++[v])[xs.length]?=some v
 simp
def z4j (b:Expr):Prop:=∀o i,subscripted b false o i=operate [o,i] (getItem o i)
def IxR (X:Cx) (r:R2):Prop:=
 ∀(value slice:Expr) (pins:List (Addr × Obj)) (s:Shared) (σ:St) (H:Hp) (x y:V) (v u:Value) (Q:VK),Inv X pins σ H s→RelV x v→RelV y u→r x y H Q→
  subscripted slice false v u=operate [v,u] (getItem v u)→wpAny (model X.prog X.w) X.A (subscriptTail value slice v u) (EP X pins σ Q) X.xe s
def MtR (X:Cx) (id:String) (r:V→List V→Hp→VK→Prop):Prop:=
 ∀(pins:List (Addr × Obj)) (s:Shared) (σ:St) (H:Hp) (x:V) (xs:List V) (v:Value) (us:List Value) (Q:VK),Inv X pins σ H s→RelV x v→Vals xs us→r x xs H Q→
  wpAny (model X.prog X.w) X.A (call (.builtin id) (v :: us)) (EP X pins σ Q) X.xe s
section
variable {X:Cx} {a b:Expr} {ta tb:TE} {pos:Pos}
theorem zC {r:R2} (hr:IxR X r) (ha:PE X a ta) (hb:PE X b tb) (hs:z4j b):PE X (.Subscript a b pos) (tOp r ta tb):=by
 intro pins s σ H Q I h
 exact Subscript_ (binT ha hb I h fun v u s2 x y H2 I2 rx ry q=>hr a b pins s2 σ H2 x y v u Q I2 rx ry q (hs _ _))
def rIxL (K:ko):R2:=fun x y H Q=>∃p xs i v,x=.ref p∧y=.int i∧SqL K H p xs∧atI xs i=some v∧Q v H
def rIxT (K:ko):R2:=fun x y H Q=>∃p xs i v,x=.ref p∧y=.int i∧SqT K H p xs∧atI xs i=some v∧Q v H
theorem zE:IxR X (rIxL X.K):=by
 intro value slice pins s σ H x y v u Q I rx ry h hs
 obtain ⟨p,xs,i,z,rfl,rfl,hq,he,q⟩:=h
 cases rx
 obtain ⟨t,rfl⟩:=ry
 obtain ⟨its,r,pl,hz⟩:=I.list hq
 obtain ⟨j,h1,h2,h3,h4,h5⟩:=z22 he
 obtain ⟨w,ew,rw'⟩:=r.get h2
 have hl:=r.length
 have hn:=ZH
 have fin:EP X pins σ Q w s:=⟨z,H,I,rw',q⟩
 by_cases h0:0≤i
 ·have hj:i.toNat=j:=by
   rw [seqIndex_of h0 h5] at h1
   exact ku h1
  exact item_listR pl.isList h0 (by lia) (by rw [hj];simpa using ew) fin hs
 ·have hj:(i+(its.toArray.size:Int)).toNat=j:=by
   rw [seqIndex_neg (by lia) h4] at h1
   rw [ky,←hl]
   exact ku h1
  exact subscriptTail_builtinR (x:=w) pl.isList.typeIs slot_list_getitem.lookup
   (wpAny_getItem_list_neg (Q:=fun r s'=>r=w∧EP X pins σ Q r s') pl.isList (by lia) (by rw [ky] <;> lia) (by lia) (by rw [hj];simpa using ew) ⟨rfl,fin⟩) hs
theorem zV:IxR X (rIxT X.K):=by
 intro value slice pins s σ H x y v u Q I rx ry h hs
 obtain ⟨p,xs,i,z,rfl,rfl,hq,he,q⟩:=h
 cases rx
 obtain ⟨t,rfl⟩:=ry
 obtain ⟨its,r,pl,hz⟩:=I.tuple hq
 obtain ⟨j,h1,h2,h3,h4,h5⟩:=z22 he
 obtain ⟨w,ew,rw'⟩:=r.get h2
 have hl:=r.length
 have hn:=ZH
 have fin:EP X pins σ Q w s:=⟨z,H,I,rw',q⟩
 exact subscriptTail_builtinR (x:=w) pl.typeIs slot_tuple_getitem.lookup
  (getItem_tuple (j:=j) (Q:=fun r s'=>r=w∧EP X pins σ Q r s') pl (by lia) (by lia) (by rw [ky,←hl];exact h1) (by simpa using ew) ⟨rfl,fin⟩) hs
theorem z09 (its:List Value) (n j:Nat) (u:Value):Obj.mapSeq (·.setIfInBounds j u) { cls:=.type "list",data:=.seq its.toArray n }={ cls:=.type "list",data:=.seq (its.set j u).toArray n }:=by
 simp [Obj.mapSeq]
theorem Inv.lst {pins:List (Addr × Obj)} {σ:St} {H:Hp} {s:Shared} {p:Addr} {xs:List V} (I:Inv X pins σ H s) (h:H p=some (.lst xs)):
  ∃(its:List Value) (n:Nat),Vals xs its∧s.heap.get? p=some { cls:=.type "list",data:=.seq its.toArray n }∧xs.length≤sizeLine:=by
 obtain ⟨z,its,n,r,e⟩:=I.hok p _ h
 exact ⟨its,n,r,e,z⟩
theorem Inv.lstUpd {pins:List (Addr × Obj)} {σ:St} {H:Hp} {s:Shared} {p:Addr} {xs ys:List V} {its its':List Value} {n n':Nat} {f:Obj→Obj} (I:Inv X pins σ H s) (h:H p=some (.lst xs))
  (ho:s.heap.get? p=some { cls:=.type "list",data:=.seq its.toArray n }) (hf:f { cls:=.type "list",data:=.seq its.toArray n }={ cls:=.type "list",data:=.seq its'.toArray n' }) (r:Vals ys its') (hz:ys.length≤sizeLine) (t:Nat):
  Inv X pins σ (upd H p (.lst ys)) { s with heap:=s.heap.update p f,toks:=t }:=by
 have e:(s.heap.update p f).get? p=some { cls:=.type "list",data:=.seq its'.toArray n' }:=by
  rw [Heap.get?_update_self f ho (by rw [hf] <;> rfl),hf]
 refine I.write (x:=p) (e:=p) (by rw [h];trivial) (.inl rfl) (fun b u hb q=>(Heap.get?_update_other _ _ (Ne.symm hb)).trans q) ⟨_,e⟩ ?_
 exact ⟨hz,its',n',r,e⟩
def z5z:V→V→V→Hp→(Hp→Prop)→Prop:=fun o i v H Q=>∃p xs k j,o=.ref p∧i=.int k∧H p=some (.lst xs)∧ixN xs.length k=some j∧Q (upd H p (.lst (xs.set j v)))
theorem qD:PSet X z5z:=by
 intro pins s σ H o i v ov iv u Q I ro ri rv h
 obtain ⟨p,xs,k,j,rfl,rfl,hp,hj,q⟩:=h
 cases ro
 obtain ⟨t,rfl⟩:=ri
 obtain ⟨its,n,r,ho,hz⟩:=I.lst hp
 obtain ⟨h1,h2,h3,h4⟩:=z1q hj
 have hl:=r.length
 have hn:=ZH
 have I':Inv X pins σ (upd H p (.lst (xs.set j v))) { s with heap:=s.heap.update p (Obj.mapSeq (·.setIfInBounds j u)) }:=
  I.lstUpd hp ho (z09 its n j u) (r.set rv j) (by rw [List.length_set];exact hz) s.toks
 by_cases h0:0≤k
 ·have hk:k.toNat=j:=by
   rw [seqIndex_of h0 h4] at h1
   exact ku h1
  exact PySem.W.ki_setAt ho h0 (by lia) (by rw [ky,←hl];exact h4) (by rw [hk];exact ⟨_,I',q⟩)
 ·have hk:(k+(its.toArray.size:Int)).toNat=j:=by
   rw [seqIndex_neg (by lia) h3] at h1
   rw [ky,←hl]
   exact ku h1
  exact PySem.W.ki_setBack ho (by lia) (by rw [ky,←hl];exact h3) (by lia) (by rw [hk];exact ⟨_,I',q⟩)
noncomputable def qI:V→Bool
 | .non=>true
 | .bl _=>true
 | .int _=>true
 | .str _=>true
 | _=>false
noncomputable def eqV:V→V→Bool
 | .non,.non=>true
 | .bl a,.bl b=>a == b
 | .bl a,.int b=>(if a then 1 else 0) == b
 | .int a,.bl b=>a == (if b then 1 else 0)
 | .int a,.int b=>a == b
 | .str a,.str b=>a == b
 | _,_=>false
theorem z1I {A:Around} {s:Shared} {y x:V} {u v:Value} (ry:RelV y u) (rx:RelV x v) (fy:qI y=true) (fx:qI x=true):SeqAt.EqAt A s u v (eqV y x):=by
 cases y with
 | non=>
  cases ry
  cases x with
  | non=>cases rx;exact SeqAt.EqAt.same _
  | bl b=>cases rx;exact SeqAt.EqAt.none_bool b
  | int b=>obtain ⟨t,rfl⟩:=rx;exact SeqAt.EqAt.none_int b t
  | str b=>obtain ⟨t,rfl⟩:=rx;exact SeqAt.EqAt.none_str b t
  | _=>exact absurd (show false=true from fx) ka
 | bl a=>
  cases ry
  cases x with
  | non=>cases rx;exact SeqAt.EqAt.bool_none a
  | bl b=>cases rx;exact SeqAt.EqAt.bool_bool a b
  | int b=>obtain ⟨t,rfl⟩:=rx;exact SeqAt.EqAt.bool_int a b t
  | str b=>obtain ⟨t,rfl⟩:=rx;exact SeqAt.EqAt.bool_str a b t
  | _=>exact absurd (show false=true from fx) ka
 | int a=>
  obtain ⟨t',rfl⟩:=ry
  cases x with
  | non=>cases rx;exact SeqAt.EqAt.int_none a t'
  | bl b=>cases rx;exact SeqAt.EqAt.int_bool a t' b
  | int b=>obtain ⟨t,rfl⟩:=rx;exact SeqAt.EqAt.int_int a t' b t
  | str b=>obtain ⟨t,rfl⟩:=rx;exact SeqAt.EqAt.int_str a t' b t
  | _=>exact absurd (show false=true from fx) ka
 | str a=>
  obtain ⟨t',rfl⟩:=ry
  cases x with
  | non=>cases rx;exact SeqAt.EqAt.str_none a t'
  | bl b=>cases rx;exact SeqAt.EqAt.str_bool a t' b
  | int b=>obtain ⟨t,rfl⟩:=rx;exact SeqAt.EqAt.str_int a t' b t
  | str b=>obtain ⟨t,rfl⟩:=rx;exact SeqAt.EqAt.str_str a t' b t
  | _=>exact absurd (show false=true from fx) ka
 | _=>exact absurd (show false=true from fy) ka
noncomputable def eqU (x:V) (u:Value):Bool:=match u with
 | .none=>eqV .non x
 | .bool b=>eqV (.bl b) x
 | .int i _=>eqV (.int i) x
 | .str z _=>eqV (.str z) x
 | _=>false
theorem z3v {x y:V} {u:Value} (r:RelV y u) (f:qI y=true):eqU x u=eqV y x:=by
 cases y with
 | non=>cases r;rfl
 | bl b=>cases r;rfl
 | int i=>obtain ⟨t,rfl⟩:=r;rfl
 | str z=>obtain ⟨t,rfl⟩:=r;rfl
 | _=>exact absurd (show false=true from f) ka
theorem Zu {x:V}:∀{xs:List V} {us:List Value},Vals xs us→xs.all qI=true→us.any (eqU x)=xs.any fun y=>eqV y x
 | _,_,.nil,_=>rfl
 | y :: xs,u :: us,.cons r t,f=>by
  rw [List.all_cons,kW] at f
  rw [List.any_cons,List.any_cons,z3v r f.1,Zu t f.2]
theorem jt {A:Around} {s:Shared} {x:V} {v:Value} (rx:RelV x v) (fx:qI x=true):∀{xs:List V} {us:List Value},Vals xs us→xs.all qI=true→∀u∈us,SeqAt.EqAt A s u v (eqU x u)
 | _,_,.nil,_=>fun u hu=>by cases hu
 | y :: xs,u :: us,.cons r t,f=>fun u' hu=>by
  rw [List.all_cons,kW] at f
  rcases kx.mp hu with rfl | hu
  ·rw [z3v r f.1];exact z1I r rx f.1 fx
  ·exact jt rx fx t f.2 u' hu
noncomputable def inV (x:V) (xs:List V):Bool:=xs.any fun y=>eqV y x
def rIn (K:ko) (neg:Bool):R2:=fun x y H Q=>∃p xs,y=.ref p∧(SqL K H p xs∨SqT K H p xs)∧qI x=true∧xs.all qI=true∧Q (.bl (if neg then !inV x xs else inV x xs)) H
theorem qK:OpR X (compareOp .In) (rIn X.K false):=by
 intro pins s σ H x y v u Q I rx ry h
 obtain ⟨p,xs,rfl,hq,fx,fs,q⟩:=h
 cases ry
 rcases hq with hq | hq
 ·obtain ⟨its,r,pl,hz⟩:=I.list hq
  refine SeqAt.in_listAt (eqU x) pl.isList (fun w hw=>jt rx fx r fs w (by simpa using hw)) ⟨.bl _,H,I,rfl,?_⟩
  rw [show its.toArray.any (eqU x)=its.any (eqU x) by simp,Zu r fs]
  exact q
 ·obtain ⟨its,r,pl,hz⟩:=I.tuple hq
  refine SeqAt.in_tupleAt (eqU x) pl (fun w hw=>jt rx fx r fs w (by simpa using hw)) ⟨.bl _,H,I,rfl,?_⟩
  rw [show its.toArray.any (eqU x)=its.any (eqU x) by simp,Zu r fs]
  exact q
theorem j6:OpR X (compareOp .NotIn) (rIn X.K true):=by
 intro pins s σ H x y v u Q I rx ry h
 obtain ⟨p,xs,rfl,hq,fx,fs,q⟩:=h
 cases ry
 rcases hq with hq | hq
 ·obtain ⟨its,r,pl,hz⟩:=I.list hq
  refine SeqAt.notIn_listAt (eqU x) pl.isList (fun w hw=>jt rx fx r fs w (by simpa using hw)) ⟨.bl _,H,I,rfl,?_⟩
  rw [show its.toArray.any (eqU x)=its.any (eqU x) by simp,Zu r fs]
  exact q
 ·obtain ⟨its,r,pl,hz⟩:=I.tuple hq
  refine SeqAt.notIn_tupleAt (eqU x) pl (fun w hw=>jt rx fx r fs w (by simpa using hw)) ⟨.bl _,H,I,rfl,?_⟩
  rw [show its.toArray.any (eqU x)=its.any (eqU x) by simp,Zu r fs]
  exact q
theorem zk:Zx X (.builtin "len") (fun xs H Q=>∃p ys,xs=[.ref p]∧(SqL X.K H p ys∨SqT X.K H p ys)∧Q (.int ys.length) H):=by
 intro pins s σ H xs us Q I r h
 obtain ⟨p,ys,rfl,hq,q⟩:=h
 obtain ⟨u,rfl,rx⟩:=JX r
 cases rx
 have hn:=ZH
 rcases hq with hq | hq
 ·obtain ⟨its,r',pl,hz⟩:=I.list hq
  have hlen:=r'.length
  exact Calls.call_len_list pl.isList (by simp only [ky] <;> lia) ⟨.int ys.length,H,I.tok _,⟨s.toks+1,by rw [ky,hlen]⟩,q⟩
 ·obtain ⟨its,r',pl,hz⟩:=I.tuple hq
  have hlen:=r'.length
  exact len_tuple pl (by simp only [ky] <;> lia) ⟨.int ys.length,H,I.tok _,⟨s.toks+1,by rw [ky,hlen]⟩,q⟩
theorem QL:Zx X (.builtin "len") (fun xs H Q=>∃z,xs=[.str z]∧z.length≤sizeLine∧Q (.int z.length) H):=by
 intro pins s σ H xs us Q I r h
 obtain ⟨z,rfl,hz,q⟩:=h
 obtain ⟨u,rfl,t,rfl⟩:=JX r
 have hn:=ZH
 exact len_str (by lia) ⟨.int z.length,H,I.tok _,⟨_,rfl⟩,q⟩
theorem jT:Zx X (.type "list") (fun xs H Q=>∃p ys,xs=[.ref p]∧(SqL X.K H p ys∨SqT X.K H p ys)∧∀l,H l=none→Q (.ref l) (upd H l (.lst ys))):=by
 intro pins s σ H xs us Q I r h
 obtain ⟨p,ys,rfl,hq,q⟩:=h
 obtain ⟨u,rfl,rx⟩:=JX r
 cases rx
 have fin:∀(its:List Value),Vals ys its→ys.length≤sizeLine→∀(h':Heap) (c':Nat),(∀b o',s.heap.get? b=some o'→h'.get? b=some o')→
   h'.get? s.heap.objs.size=some { cls:=.type "list",dict:=none,data:=.seq its.toArray c',slots:=#[] }→EP X pins σ Q (.ref s.heap.objs.size) { s with heap:=h' }:=fun its r' hz h' c' kp e=>
  ⟨.ref s.heap.objs.size,_,I.laid (t':=s.toks) kp (kc _) (show zN X.prog X.w _ h' _ (.lst ys) from ⟨hz,its,c',r',e⟩),rfl,q _ (I.hok.fresh (kc _))⟩
 rcases hq with hq | hq
 ·obtain ⟨its,r',pl,hz⟩:=I.list hq
  have hlen:=r'.length
  obtain ⟨o,ho,hc,n,hd⟩:=pl.isList
  exact call_list_seq p (.inl rfl) ho hc hd (fun h' c' kp e=>fin its r' hz h' c' kp e) (by simp only [ky] <;> lia)
 ·obtain ⟨its,r',pl,hz⟩:=I.tuple hq
  have hlen:=r'.length
  obtain ⟨o,ho,hc,n,hd⟩:=pl
  exact call_list_seq p (.inr rfl) ho hc hd (fun h' c' kp e=>fin its r' hz h' c' kp e) (by simp only [ky] <;> lia)
def tyV (K:ko) (T:String) (x:V) (H:Hp):Prop:=match x with
 | .str _=>T="str"
 | .int _=>T="int"
 | .ref p=>(T="list"∧∃xs,SqL K H p xs)∨(T="tuple"∧∃o,K.lookup p=some o∧o.cls=.type "tuple"∧o.dict=none)∨
   (T="dict"∧((∃kvs,H p=some (.dK kvs))∨∃kvs,H p=some (.dT kvs)))∨(T="set"∧∃S n,H p=some (.set S n))
 | _=>False
theorem z33 {pins:List (Addr × Obj)} {σ:St} {H:Hp} {s:Shared} {T:String} {x:V} {v:Value} (I:Inv X pins σ H s) (r:RelV x v) (ty:tyV X.K T x H):
  s.TypeIs v T∧∀a,v=.ref a→∃ob,s.heap.get? a=some ob∧ob.dict=none:=by
 cases x with
 | str z=>
  obtain ⟨t,rfl⟩:=r
  cases (show T="str" from ty)
  exact ⟨typeIs_str s z t,fun _ e=>nomatch e⟩
 | int i=>
  obtain ⟨t,rfl⟩:=r
  cases (show T="int" from ty)
  exact ⟨typeIs_int s i t,fun _ e=>nomatch e⟩
 | ref p=>
  cases r
  rcases ty with ⟨rfl,xs,hq⟩ | ⟨rfl,o,hk,hc,hd⟩ | ⟨rfl,hk⟩ | ⟨rfl,S,n,hk⟩
  ·obtain ⟨its,_,pl,_⟩:=I.list hq
   refine ⟨pl.isList.typeIs,fun a e=>?_⟩
   cases e
   obtain ⟨o,n,e,c,hd,_⟩:=pl
   exact ⟨o,e,hd⟩
  ·refine ⟨⟨o,I.kIn p o hk,hc⟩,fun a e=>?_⟩
   cases e
   exact ⟨o,I.kIn _ o hk,hd⟩
  ·have z:∃o,s.heap.get? p=some o∧o.ExactDict:=by
    rcases hk with ⟨kvs,hk⟩ | ⟨kvs,hk⟩
    ·obtain ⟨_,_,_,_,o,_,_,e,ex,_⟩:=I.hok p _ hk
     exact ⟨o,e,ex⟩
    ·obtain ⟨_,_,_,_,o,_,_,e,ex,_⟩:=I.hok p _ hk
     exact ⟨o,e,ex⟩
   obtain ⟨o,e,ex⟩:=z
   refine ⟨⟨o,e,ex.1⟩,fun a e2=>?_⟩
   cases e2
   exact ⟨o,e,ex.2.1⟩
  ·obtain ⟨o,_,_,_,e,ex,_⟩:=I.hok p _ hk
   refine ⟨⟨o,e,ex.1⟩,fun a e2=>?_⟩
   cases e2
   exact ⟨o,e,ex.2.1⟩
 | _=>exact False.elim ty
def tBM0 (K:ko) (T:String) (r:V→List V→Hp→VK→Prop) (to:TE):TE:=fun σ H Q=>to σ H fun x H1=>tyV K T x H1∧r x [] H1 Q
def tBM (K:ko) (T:String) (r:V→List V→Hp→VK→Prop) (to:TE) (t:TA):TE:=fun σ H Q=>to σ H fun x H1=>tyV K T x H1∧t σ H1 fun xs H2=>r x xs H2 Q
variable {o e:Expr} {es:List Expr} {to:TE} {t:TA} {name:Str} {apos cpos:Pos} {T id:String} {r:V→List V→Hp→VK→Prop}
theorem z19 (pa:PlainAttrs T) (slot:Slot T name id) (hty:typeOf (.builtin id)=pure (.type "method_descriptor")) (hm:MtR X id r) (ho:PE X o to)
  (hbase:autoParam (attributeBase o name X.env (eval o X.env)=eval o X.env) aR._auto_1) (hline:autoParam ((apos.endLine == cpos.line)=true) aR._auto_1):PE X (.Call (.Attribute o name apos) [] [] cpos) (tBM0 X.K T r to):=by
 intro pins s σ H Q I h
 refine wpAny_Call_method0_late hbase hline (thn (ho pins s σ H _ I h) fun v s1 zz=>?_)
 obtain ⟨x,H1,I1,r1,ty,q1⟩:=zz
 obtain ⟨h1,h2⟩:=z33 I1 r1 ty
 exact ⟨T,id,pa,slot,hty,h1,h2,Calls.callWith_builtin rfl (PySem.evalArgs_none (hm pins s1 σ H1 x [] v [] Q I1 r1 .nil q1))⟩
theorem ZY (pa:PlainAttrs T) (slot:Slot T name id) (hty:typeOf (.builtin id)=pure (.type "method_descriptor")) (hm:MtR X id r) (ho:PE X o to) (ha:PA X (e :: es) t)
  (hbase:autoParam (attributeBase o name X.env (eval o X.env)=eval o X.env) aR._auto_1)
  (hfew:autoParam (((backTo cpos (starEach (e :: es) X.env)).all (fun x=> !x.1)&&(backToKw cpos (keywordEach [] X.env)).all (fun x=>x.1.isSome)
   &&decide ((e :: es).length+([]:List Keyword).length+(if ([]:List Keyword).isEmpty then 0 else 1) < 30))=true) aR._auto_1)
  (hline:autoParam ((apos.endLine == cpos.line)=true) aR._auto_1) (hs:autoParam (starEach (e :: es) X.env=(false,eval e X.env) :: starEach es X.env) aR._auto_1) (hplain:autoParam ((backTo cpos (starEach es X.env)).any (·.1)=false) aR._auto_1):
  PE X (.Call (.Attribute o name apos) (e :: es) [] cpos) (tBM X.K T r to t):=by
 intro pins s σ H Q I h
 refine wpAny_Call_method_late hbase hfew hline rfl (thn (ho pins s σ H _ I h) fun v s1 zz=>?_)
 obtain ⟨x,H1,I1,r1,ty,q1⟩:=zz
 obtain ⟨h1,h2⟩:=z33 I1 r1 ty
 refine ⟨T,id,pa,slot,hty,h1,h2,?_⟩
 have hA:=ha cpos pins s1 σ H1 _ I1 q1
 rw [hs] at hA ⊢
 refine Calls.callWith_builtin (by show (false||(backTo cpos (starEach es X.env)).any (·.1))=false;rw [hplain] <;> rfl) (Calls.evalArgs_plain ?_)
 exact thn hA fun us s2 ⟨vs,H2,I2,r2,q2⟩=>hm pins s2 σ H2 x vs v us Q I2 r1 r2 q2
end
end L2
namespace L2
open PySem PySem.Spec PyProof.Rows
def MtM (X:Cx) (id:String) (r:V→List V→Hp→VK→Prop):Prop:=
 ∀(pins:List (Addr × Obj)) (s:Shared) (σ:St) (H:Hp) (x:V) (xs:List V) (v:Value) (us:List Value) (Q:VK),Inv X pins σ H s→RelV x v→Vals xs us→r x xs H Q→
  wpAny (model X.prog X.w) X.A (call (.builtin id) (v :: us)) (EP X pins σ Q) X.xe s
theorem Vals.one:∀{x:V} {us:List Value},Vals [x] us→∃u,us=[u]∧RelV x u
 | _,_,.cons r .nil=>⟨_,rfl,r⟩
theorem Vals.two:∀{x y:V} {us:List Value},Vals [x,y] us→∃u v,us=[u,v]∧RelV x u∧RelV y v
 | _,_,_,.cons r (.cons q .nil)=>⟨_,_,rfl,r,q⟩
theorem Vals.eraseIdx:∀{xs:List V} {us:List Value} (i:Nat),Vals xs us→Vals (xs.eraseIdx i) (us.eraseIdx i)
 | _,_,_,.nil=>.nil
 | _,_,0,.cons _ t=>t
 | _,_,i+1,.cons r t=>.cons r (Vals.eraseIdx i t)
theorem Vals.rep {xs:List V} {us:List Value} (h:Vals xs us):∀k:Nat,Vals (List.replicate k xs).flatten (List.replicate k us).flatten
 | 0=>.nil
 | k+1=>by
  rw [List.replicate_succ,List.replicate_succ,List.flatten_cons,List.flatten_cons]
  exact Vals.append h (Vals.rep h k)
theorem Qx {α:Type}:∀(l:List α) (i:Nat),(l.eraseIdx i).length≤l.length
 | [],_=>kc _
 | _ :: _,0=>Nat.le_succ _
 | _ :: r,i+1=>Nat.succ_le_succ (Qx r i)
theorem QF (its:List Value):∀(k:Nat) (acc:List Value),
  List.foldl (fun x1 x2=>x1++x2) acc.toArray (List.replicate k its.toArray)=(acc++(List.replicate k its).flatten).toArray
 | 0,acc=>by simp
 | k+1,acc=>by
  have e:acc.toArray++its.toArray=(acc++its).toArray:=by simp
  have e2:(acc++its)++(List.replicate k its).flatten=acc++(List.replicate (k+1) its).flatten:=by
   rw [List.replicate_succ,List.flatten_cons,kO]
  rw [←e2,←QF its k (acc++its),←e,List.replicate_succ,List.foldl_cons]
section
variable {X:Cx} {pins:List (Addr × Obj)} {σ:St} {H:Hp} {s:Shared} {l b:Addr} {xs ys zs:List V}
theorem Inv.lset {its its':List Value} {n:Nat} {f:Array Value→Array Value} {t':Nat} (I:Inv X pins σ H s) (hH:H l=some (.lst xs))
  (e:s.heap.get? l=some { cls:=.type "list",data:=.seq its.toArray n }) (hf:f its.toArray=its'.toArray) (hv:Vals ys its') (hz:ys.length≤sizeLine):
  Inv X pins σ (upd H l (.lst ys)) { s with heap:=s.heap.update l (Obj.mapSeq f),toks:=t' }:=by
 have q:=PySem.IsL.update e f
 rw [hf] at q
 refine I.write (x:=l) (e:=l) (by rw [hH];exact trivial) (.inl rfl) (fun b' u hb hu=>(Heap.get?_update_other s.heap (Obj.mapSeq f) (Ne.symm hb)).trans hu) ⟨_,q⟩ ?_
 exact ⟨hz,its',_,hv,q⟩
theorem Inv.lnew {its:List Value} {t':Nat} (I:Inv X pins σ H s) (hv:Vals ys its) (hz:ys.length≤sizeLine):
  Inv X pins σ (upd H s.heap.objs.size (.lst ys)) { s with heap:=s.heap.push { cls:=.type "list",data:=.seq its.toArray },toks:=t' }:=
 I.laid (fun _ _ q=>Heap.get?_push_of_some _ q) (kc _) ⟨hz,its,0,hv,Heap.get?_push_size _ rfl⟩
theorem Inv.fresh (I:Inv X pins σ H s):H s.heap.objs.size=none:=I.hok.fresh (kc _)
theorem Inv.lstM (I:Inv X pins σ H s) (hH:H l=some (.lst xs)):xs.length≤sizeLine∧∃(its:List Value) (n:Nat),Vals xs its∧xs.length=its.length∧s.heap.get? l=some { cls:=.type "list",data:=.seq its.toArray n }:=by
 obtain ⟨z,its,n,r,e⟩:=I.hok l _ hH
 exact ⟨z,its,n,r,r.length,e⟩
theorem JG {n:Nat} (h:n≤sizeLine):Builtin.List.listTooLong n=false:=by
 unfold Builtin.List.listTooLong
 exact ke (by lia)
end
section
variable {X:Cx}
def J4:V→List V→Hp→VK→Prop:=fun x vs H Q=>∃l xs y,x=.ref l∧vs=[y]∧H l=some (.lst xs)∧xs.length < sizeLine∧Q .non (upd H l (.lst (xs++[y])))
theorem qM:MtM X "list.append" J4:=by
 intro pins s σ H x vs v us Q I rx rv h
 obtain ⟨l,xs,y,rfl,rfl,hH,hz,q⟩:=h
 cases rx
 obtain ⟨u,rfl,ru⟩:=rv.one
 obtain ⟨z,its,n,r,hl,e⟩:=I.lstM hH
 refine call_meets F.slot_list_append ⟨_,e,rfl⟩ F.entry_list_append (F.args_list_append_2 _ _) (PySem.list_append l its.toArray n u (by rw [ky];lia)) ⟨e,?_⟩
 refine ⟨.non,_,I.lset (its':=its++[u]) hH e (by simp) (r.append (.cons ru .nil)) ?_,rfl,q⟩
 rw [kh,kz]
 lia
def z3N:V→List V→Hp→VK→Prop:=fun x vs H Q=>∃l b xs zs,x=.ref l∧vs=[.ref b]∧H l=some (.lst xs)∧H b=some (.lst zs)∧xs.length+zs.length≤sizeLine∧Q .non (upd H l (.lst (xs++zs)))
theorem z1i:MtM X "list.extend" z3N:=by
 intro pins s σ H x vs v us Q I rx rv h
 obtain ⟨l,b,xs,zs,rfl,rfl,hH,hB,hz,q⟩:=h
 cases rx
 obtain ⟨u,rfl,ru⟩:=rv.one
 cases ru
 obtain ⟨z,its,n,r,hl,e⟩:=I.lstM hH
 obtain ⟨z2,its2,n2,r2,hl2,e2⟩:=I.lstM hB
 have hsz:its.toArray.size+its2.toArray.size≤sizeLine:=by rw [ky,ky];lia
 have hlong:¬(!its.toArray.isEmpty&&Builtin.List.listTooLong (its.toArray.size+its2.toArray.size))=true:=by
  rw [JG hsz,Bool.and_false]
  exact ka
 refine call_meets F.slot_list_extend ⟨_,e,rfl⟩ F.entry_list_extend (F.args_list_extend_2 _ _)
  (AutoSeq1.list_extend_list_list_0 l its.toArray n b its2.toArray n2 hlong (by rw [ky];lia) (by lia)) ⟨e,e2,?_⟩
 refine ⟨.non,_,I.lset (its':=its++its2) hH e (by simp) (r.append r2) ?_,rfl,q⟩
 rw [kh]
 lia
def z4F:V→List V→Hp→VK→Prop:=fun x vs H Q=>∃l xs i k y,x=.ref l∧vs=[.int i]∧H l=some (.lst xs)∧-(2 ^ 63)≤i∧i < 2 ^ 63∧seqIndex? i xs.length=some k∧xs[k]?=some y∧Q y (upd H l (.lst (xs.eraseIdx k)))
theorem z2s:MtM X "list.pop" z4F:=by
 intro pins s σ H x vs v us Q I rx rv h
 obtain ⟨l,xs,i,k,y,rfl,rfl,hH,h1,h2,hk,hy,q⟩:=h
 cases rx
 obtain ⟨u,rfl,ru⟩:=rv.one
 obtain ⟨t,rfl⟩:=ru
 obtain ⟨z,its,n,r,hl,e⟩:=I.lstM hH
 obtain ⟨w,hw,rw'⟩:=r.get hy
 refine call_meets F.slot_list_pop ⟨_,e,rfl⟩ F.entry_list_pop (F.args_list_pop_2 _ _)
  (MeetsSeq.list_pop_at l its.toArray n i t k w (fitsIndex_both h1 h2) (by rw [ky,←hl];exact hk) (by rw [←Array.getElem?_toList];exact hw) (by rw [ky];lia)) ⟨e,?_⟩
 refine ⟨y,_,I.lset (its':=its.eraseIdx k) hH e ?_ (r.eraseIdx k) ?_,rw',q⟩
 ·show its.toArray.eraseIdxIfInBounds k=(its.eraseIdx k).toArray
  rw [List.eraseIdxIfInBounds_toArray]
 ·have:=Qx xs k
  lia
def rCat:R2:=fun x y H Q=>∃l b xs zs,x=.ref l∧y=.ref b∧H l=some (.lst xs)∧H b=some (.lst zs)∧xs.length+zs.length≤sizeLine∧∀p,H p=none→Q (.ref p) (upd H p (.lst (xs++zs)))
theorem z1c:OpR X (binaryOp .Add) rCat:=by
 intro pins s σ H x y v u Q I rx ry h
 obtain ⟨l,b,xs,zs,rfl,rfl,hH,hB,hz,q⟩:=h
 cases rx
 cases ry
 obtain ⟨z,its,n,r,hl,e⟩:=I.lstM hH
 obtain ⟨z2,its2,n2,r2,hl2,e2⟩:=I.lstM hB
 refine PySem.P.add_list e e2 ?_ (by rw [ky,ky];lia)
 have ea:its.toArray++its2.toArray=(its++its2).toArray:=by simp
 rw [ea]
 exact ⟨.ref _,_,I.lnew (t':=s.toks) (r.append r2) (by rw [kh];lia),rfl,q _ I.fresh⟩
def rRep:R2:=fun x y H Q=>∃l k xs,x=.ref l∧y=.int k∧H l=some (.lst xs)∧-(2 ^ 63)≤k∧k < 2 ^ 63∧xs.length * k.toNat≤sizeLine∧
 ∀p,H p=none→Q (.ref p) (upd H p (.lst (List.replicate k.toNat xs).flatten))
theorem z3V {α:Type} (xs:List α) (k:Nat):(List.replicate k xs).flatten.length=k * xs.length:=by
 induction k with
 | zero=>simp
 | succ k ih=>rw [List.replicate_succ,List.flatten_cons,kh,ih,Nat.succ_mul,Nat.add_comm]
theorem z4O:OpR X (binaryOp .Mult) rRep:=by
 intro pins s σ H x y v u Q I rx ry h
 obtain ⟨l,k,xs,rfl,rfl,hH,h1,h2,hz,q⟩:=h
 cases rx
 obtain ⟨t,rfl⟩:=ry
 obtain ⟨z,its,n,r,hl,e⟩:=I.lstM hH
 have hlen:its.toArray.size * k.toNat≤sizeLine:=by rw [ky,←hl];exact hz
 have hcap:¬its.toArray.size * k.toNat > (2 ^ 63 - 1) / 8:=by
  have:(sizeLine:Nat)≤(2 ^ 63 - 1) / 8:=by decide
  lia
 have hfit:¬(!Builtin.List.listFitsIndex k)=true:=by
  rw [fitsIndex_both h1 h2]
  exact ka
 have hlong:¬Builtin.List.listTooLong (its.toArray.size * k.toNat)=true:=by
  rw [JG hlen]
  exact ka
 have hnew:List.foldl (fun x1 x2=>x1++x2) #[] (List.replicate (if its.toArray.isEmpty=true then 0 else k.toNat) its.toArray)=(List.replicate k.toNat its).flatten.toArray:=by
  have f0:∀m:Nat,List.foldl (fun x1 x2=>x1++x2) #[] (List.replicate m its.toArray)=(List.replicate m its).flatten.toArray:=fun m=>by
   have:=QF its m []
   rw [List.nil_append] at this
   exact this
  rw [f0]
  cases its with
  | nil=>simp
  | cons a r'=>rw [kq (by simp)]
 refine wpAny_binaryOp_repeat_ref (T:="list") (U:="int") (by decide) ⟨_,e,rfl⟩ (fun s'=>typeIs_int s' k t) noFill_list_mul F.fills_int_mul F.slot_int_rmul repeat_list F.slot_int_index.lookup
  (call_meets F.slot_int_rmul (typeIs_int s k t) F.entry_int_rmul (F.args_int_rmul_2 _ _) (int___rmul___int_list k t l its.toArray n)
   ⟨e,rfl,⟨_,e,rfl⟩,call_meets F.slot_list_mul ⟨_,e,rfl⟩ F.entry_list_mul (F.args_list_mul_2 _ _) (AutoListH.list___mul___list_int_3 l its.toArray n k t hfit hcap hlong) ⟨e,?_⟩⟩)
 rw [hnew]
 exact ⟨.ref _,_,I.lnew (t':=s.toks) (r.rep k.toNat) (by rw [z3V,Nat.mul_comm];exact hz),rfl,q _ I.fresh⟩
end
section
variable {prog:Program} {w:World} {A:Around} {E:Value→Shared→Prop} {s:Shared}
set_option maxRecDepth 100000 in
end
section
variable {X:Cx}
end
end L2
namespace L2
open PySem PySem.Spec PyProof.Rows
section
variable {κ:Type} [DecidableEq κ]
noncomputable def valV (kvs:List (κ × V)) (k:κ):Option V:=(kvs.find? fun kv=>decide (kv.1=k)).map (·.2)
noncomputable def putK (kvs:List (κ × V)) (k:κ) (v:V):List (κ × V):=
 if (kvs.any fun kv=>decide (kv.1=k))=true then kvs.map (fun kv=>if kv.1=k then (kv.1,v) else kv) else kvs++[(k,v)]
theorem qa {p:κ × V} {r:List (κ × V)} {k:κ} (e:p.1=k):valV (p :: r) k=some p.2:=by simp [valV,List.find?_cons,e]
theorem qb {p:κ × V} {r:List (κ × V)} {k:κ} (e:¬p.1=k):valV (p :: r) k=valV r k:=by simp [valV,List.find?_cons,e]
theorem jY (k:κ):∀kvs:List (κ × V),(kvs.any fun kv=>decide (kv.1=k))=(valV kvs k).isSome
 | []=>rfl
 | p :: r=>by
  rw [List.any_cons]
  by_cases e:p.1=k
  ·simp only [qa e,kf e,Bool.true_or,Option.isSome_some]
  ·rw [qb e,ke e,Bool.false_or];exact jY k r
theorem Jq (k j:κ) (y:V):∀kvs:List (κ × V),valV (kvs.map fun kv=>if kv.1=k then (kv.1,y) else kv) j=(valV kvs j).map fun x=>if j=k then y else x
 | []=>rfl
 | p :: r=>by
  have ih:=Jq k j y r
  rw [kM]
  by_cases h:p.1=k
  ·rw [kr h]
   by_cases e:p.1=j
   ·rw [qa (p:=(p.1,y)) e,qa e,Option.map_some,kr (e.symm.trans h)]
   ·rw [qb (p:=(p.1,y)) e,qb e,ih]
  ·rw [kq h]
   by_cases e:p.1=j
   ·rw [qa (p:=p) e,qa e,Option.map_some,kq (fun z=>h (e.trans z))]
   ·rw [qb (p:=p) e,qb e,ih]
theorem Qh (k j:κ) (y:V):∀kvs:List (κ × V),valV kvs k=none→valV (kvs++[(k,y)]) j=if j=k then some y else valV kvs j
 | [],_=>by
  by_cases e:k=j
  ·rw [kr e.symm];exact qa (p:=(k,y)) e
  ·rw [kq (fun z=>e z.symm)];exact qb (p:=(k,y)) e
 | p :: r,hn=>by
  rw [List.cons_append]
  have hk:¬p.1=k:=fun z=>by rw [qa z] at hn;cases hn
  rw [qb hk] at hn
  have ih:=Qh k j y r hn
  by_cases e:p.1=j
  ·rw [qa e,qa e,kq (fun z=>hk (e.trans z))]
  ·rw [qb e,qb e,ih]
theorem ZN (kvs:List (κ × V)) (k j:κ) (y:V):valV (putK kvs k y) j=if j=k then some y else valV kvs j:=by
 unfold putK
 by_cases a:(kvs.any fun kv=>decide (kv.1=k))=true
 ·rw [kr a,Jq]
  rw [jY] at a
  by_cases e:j=k
  ·obtain ⟨x,hx⟩:=Option.isSome_iff_exists.mp a
   rw [kr e,e,hx,Option.map_some,kr rfl]
  ·rw [kq e]
   cases valV kvs j with
   | none=>rfl
   | some x=>rw [Option.map_some,kq e]
 ·rw [kq a]
  refine Qh k j y kvs ?_
  rw [jY] at a
  cases q:valV kvs k with
  | none=>rfl
  | some x=>rw [q] at a;exact (a rfl).elim
theorem qi (kvs:List (κ × V)) (k:κ) (v:V):(putK kvs k v).length≤kvs.length+1:=by
 unfold putK
 split
 ·rw [kg];lia
 ·rw [kh,kI,List.length_nil];lia
theorem RelO.isSome_eq {o:Option V} {u:Option Value} (r:RelO o u):o.isSome=u.isSome:=by
 cases o with
 | none=>cases u with
  | none=>rfl
  | some _=>exact (show False from r).elim
 | some _=>cases u with
  | none=>exact (show False from r).elim
  | some _=>rfl
theorem RelO.getD {o:Option V} {u:Option Value} {d:V} {d':Value} (r:RelO o u) (rd:RelV d d'):RelV (o.getD d) (u.getD d'):=by
 cases o with
 | none=>cases u with
  | none=>exact rd
  | some _=>exact (show False from r).elim
 | some _=>cases u with
  | none=>exact (show False from r).elim
  | some _=>exact r
theorem KV.val {kvs:List (κ × V)} {vs:List (κ × Value)} (r:KV kvs vs) (k:κ):RelO (valV kvs k) (valueAt vs k):=by
 unfold KV at r
 induction r with
 | nil=>exact True.intro
 | @cons p q ps qs h t ih=>
  obtain ⟨h1,h2⟩:=h
  by_cases e:p.1=k
  ·have e':q.1=k:=h1.symm.trans e
   have b:valueAt (q :: qs) k=some q.2:=by simp [valueAt,List.find?_cons,e']
   rw [qa e,b];exact h2
  ·have e':¬q.1=k:=fun z=>e (h1.trans z)
   have b:valueAt (q :: qs) k=valueAt qs k:=by simp [valueAt,List.find?_cons,e']
   rw [qb e,b];exact ih
theorem KV.any {kvs:List (κ × V)} {vs:List (κ × Value)} (r:KV kvs vs) (k:κ):(kvs.any fun kv=>decide (kv.1=k))=vs.any fun kv=>decide (kv.1=k):=by
 unfold KV at r
 induction r with
 | nil=>rfl
 | cons h t ih=>rw [List.any_cons,List.any_cons,ih,h.1]
theorem KV.repl {kvs:List (κ × V)} {vs:List (κ × Value)} (r:KV kvs vs) (k:κ) {y:V} {u:Value} (ry:RelV y u):
  KV (kvs.map fun kv=>if kv.1=k then (kv.1,y) else kv) (vs.map fun kv=>if kv.1=k then (kv.1,u) else kv):=by
 unfold KV at r ⊢
 induction r with
 | nil=>exact .nil
 | @cons p q ps qs h t ih=>
  rw [kM,kM]
  refine .cons ?_ ih
  obtain ⟨h1,h2⟩:=h
  by_cases e:p.1=k
  ·rw [kr e,kr (h1.symm.trans e)];exact ⟨h1,ry⟩
  ·rw [kq e,kq (fun z=>e (h1.trans z))];exact ⟨h1,h2⟩
theorem KV.put {kvs:List (κ × V)} {vs:List (κ × Value)} (r:KV kvs vs) (k:κ) {y:V} {u:Value} (ry:RelV y u):KV (putK kvs k y) (stored vs k u):=by
 unfold putK stored
 rw [r.any k]
 by_cases e:(vs.any fun kv=>decide (kv.1=k))=true
 ·rw [kr e,kr e];exact r.repl k ry
 ·rw [kq e,kq e];exact Paired.snoc r ⟨rfl,ry⟩
theorem KV.length {kvs:List (κ × V)} {vs:List (κ × Value)} (r:KV kvs vs):kvs.length=vs.length:=Paired.length r
end
theorem Jc {P:Program} {w:World} {k:Key} {u:Value} (r:RelV (kV k) u):(zD P w).is k u=true:=by
 cases k with
 | inl i=>obtain ⟨t,e⟩:=(show ∃t,u=Value.int i t from r);subst e;exact J9 P w i t
 | inr x=>obtain ⟨t,e⟩:=(show ∃t,u=Value.str x t from r);subst e;exact J8 P w x t
theorem QB {P:Program} {w:World}:∀{ks:List Key} {us:List Value},Vals (ks.map kV) us→ItemsAre (zD P w) ks us
 | [],_,r=>by rw [List.map_nil] at r;cases r;exact .nil
 | k :: ks,_,r=>by
  rw [kM] at r
  cases r with
  | cons h t=>exact .cons (Jc h) (QB t)
abbrev KT (H:Hp):List (List Key × V)→List (List Key × Addr × Value)→Prop:=Paired fun p q=>p.1=q.1∧H q.2.1=some (.tup (p.1.map kV))∧RelV p.2 q.2.2
theorem KT.val {H:Hp} {kvs:List (List Key × V)} {xs:List (List Key × Addr × Value)} (r:KT H kvs xs) (k:List Key):RelO (valV kvs k) ((atKey xs k).map (·.2)):=by
 induction r with
 | nil=>exact True.intro
 | @cons p q ps qs h t ih=>
  obtain ⟨h1,_,h2⟩:=h
  by_cases e:p.1=k
  ·have e':q.1=k:=h1.symm.trans e
   have b:atKey (q :: qs) k=some q.2:=by simp [atKey,List.find?_cons,e']
   rw [qa e,b];exact h2
  ·have e':¬q.1=k:=fun z=>e (h1.trans z)
   have b:atKey (q :: qs) k=atKey qs k:=by simp [atKey,List.find?_cons,e']
   rw [qb e,b];exact ih
theorem KT.repl {H:Hp} {kvs:List (List Key × V)} {xs:List (List Key × Addr × Value)} (r:KT H kvs xs) (k:List Key) {y:V} {u:Value} (ry:RelV y u):
  KT H (kvs.map fun kv=>if kv.1=k then (kv.1,y) else kv) (xs.map (putAt k u)):=by
 induction r with
 | nil=>exact .nil
 | @cons p q ps qs h t ih=>
  rw [kM,kM]
  refine .cons ?_ ih
  obtain ⟨h1,h2,h3⟩:=h
  unfold putAt
  by_cases e:p.1=k
  ·rw [kr e,kr (h1.symm.trans e)];exact ⟨h1,h2,ry⟩
  ·rw [kq e,kq (fun z=>e (h1.trans z))];exact ⟨h1,h2,h3⟩
theorem KT.put {H:Hp} {kvs:List (List Key × V)} {xs:List (List Key × Addr × Value)} (r:KT H kvs xs) (k:List Key) {b:Addr} {y:V} {u:Value} (hb:H b=some (.tup (k.map kV))) (ry:RelV y u):
  KT H (putK kvs k y) (storedH xs k b u):=by
 have e:(kvs.any fun kv=>decide (kv.1=k))=(atKey xs k).isSome:=by
  rw [jY,(r.val k).isSome_eq,Option.isSome_map]
 unfold putK storedH
 rw [e]
 by_cases q:(atKey xs k).isSome=true
 ·rw [kr q,kr q];exact r.repl k ry
 ·rw [kq q,kq q];exact Paired.snoc r ⟨rfl,hb,ry⟩
theorem KT.keeps {H H':Hp} {kvs:List (List Key × V)} {xs:List (List Key × Addr × Value)} (r:KT H kvs xs) (ht:∀b ys,H b=some (.tup ys)→H' b=some (.tup ys)):KT H' kvs xs:=
 Paired.mapP r fun _ _ z=>⟨z.1,ht _ _ z.2.1,z.2.2⟩
section
variable {P:Program} {w:World} {H:Hp} {h:Heap} {a:Addr}
theorem z4E {u:HO} (ok:HOk P w H h) (e:Rd H a u):zN P w H h a u:=e.ok ok
theorem z0p {kvs:List (Key × V)} (ok:HOk P w H h) (e:Rd H a (.dK kvs)):kvs.length≤sizeLine∧(a == sysModules)=false∧∃vs,KV kvs vs∧h.DictOf (zD P w) a vs:=
 show zN P w H h a (.dK kvs) from z4E ok e
theorem z2Q {kvs:List (Key × V)} (ok:HOk P w H h) (e:H a=some (.dK kvs)):kvs.length≤sizeLine∧(a == sysModules)=false∧∃vs,KV kvs vs∧h.DictOf (zD P w) a vs:=z0p ok (.inl e)
theorem QA {ks:List Key} (ok:HOk P w H h) (e:H a=some (.tup (ks.map kV))):(tupleKind (zD P w)).is h ks a:=by
 obtain ⟨_,its,r,o,h1,h2,n,h3⟩:=(show zN P w H h a (.tup (ks.map kV)) from ok a _ e)
 exact ⟨o,its.toArray,n,h1,h2,h3,by simpa using QB r⟩
theorem z0o {kvs:List (List Key × V)} (ok:HOk P w H h) (e:Rd H a (.dT kvs)):kvs.length≤sizeLine∧(a == sysModules)=false∧
  ∃xs,KT H kvs xs∧h.DictOfH (tupleKind (zD P w)) a xs:=by
 obtain ⟨z,y,xs,r,o,es,ep,h1,h2,h3,h4,h5⟩:=(show zN P w H h a (.dT kvs) from z4E ok e)
 refine ⟨z,y,xs,r,o,es,ep,h1,h2,h3,h4,fun x hx=>?_,h5⟩
 have all:∀{l:List (List Key × V)} {m:List (List Key × Addr × Value)},KT H l m→∀x∈m,(tupleKind (zD P w)).is h x.1 x.2.1:=by
  intro l m q
  induction q with
  | nil=>intro x hx;exact nomatch hx
  | @cons p q ps qs hq t ih=>
   intro x hx
   rcases kx.mp hx with e | hx
   ·subst e
    exact QA ok (by rw [←hq.1];exact hq.2.1)
   ·exact ih x hx
 exact all r x hx
theorem z5Q {kvs:List (List Key × V)} (ok:HOk P w H h) (e:H a=some (.dT kvs)):kvs.length≤sizeLine∧(a == sysModules)=false∧
  ∃xs,KT H kvs xs∧h.DictOfH (tupleKind (zD P w)) a xs:=z0o ok (.inl e)
end
def DGet (H:Hp) (a:Addr) (y:V) (r:Option V):Prop:=
 (∃kvs k,Rd H a (.dK kvs)∧y=kV k∧r=valV kvs k)∨∃kvs k b,Rd H a (.dT kvs)∧y=.ref b∧H b=some (.tup (k.map kV))∧r=valV kvs k
def DPut (H:Hp) (a:Addr) (y v:V) (H':Hp):Prop:=
 (∃kvs k,H a=some (.dK kvs)∧y=kV k∧kvs.length < sizeLine∧H'=upd H a (.dK (putK kvs k v)))∨
 ∃kvs k b,H a=some (.dT kvs)∧y=.ref b∧H b=some (.tup (k.map kV))∧kvs.length < sizeLine∧H'=upd H a (.dT (putK kvs k v))
theorem DGet.k {H:Hp} {a:Addr} {kvs:List (Key × V)} {k:Key} (e:H a=some (.dK kvs)):DGet H a (kV k) (valV kvs k):=.inl ⟨kvs,k,.inl e,rfl,rfl⟩
theorem DPut.k {H:Hp} {a:Addr} {kvs:List (Key × V)} {k:Key} {v:V} (e:H a=some (.dK kvs)) (hl:kvs.length < sizeLine):DPut H a (kV k) v (upd H a (.dK (putK kvs k v))):=.inl ⟨kvs,k,e,rfl,hl,rfl⟩
section
variable {X:Cx} {pins:List (Addr × Obj)} {σ:St} {H:Hp} {s:Shared} {a:Addr} {y v:V} {u r:Value} {o:Option V} {A:Around} {E:Value→Shared→Prop}
theorem Inv.big (I:Inv X pins σ H s):sysModules < s.heap.objs.size:=by
 have h:mainGlobals < s.heap.objs.size:=(I.mod.glob.keeps I.bk).lt
 exact Nat.lt_trans (by decide) h
theorem z1Q {Q:Value→Shared→Prop} (hu:A.units+1 < cLine) (I:Inv X pins σ H s) (g:DGet H a y (some v)) (ry:RelV y u) (h:∀w' s',Inv X pins σ H s'→RelV v w'→Q w' s'):
  wpAny (model X.prog X.w) A (getItem (.ref a) u) Q E s:=by
 rcases g with ⟨kvs,k,e,ey,l⟩ | ⟨kvs,k,b,e,ey,eb,l⟩
 ·subst ey
  obtain ⟨z,hd,vs,rel,dd⟩:=z0p I.hok e
  obtain ⟨w',hw,rw'⟩:=RelO.some_of (v:=v) (o:=valueAt vs k) (by rw [l];exact rel.val k)
  exact wpAny_getItem_of (Jc ry) dd.mapOf hw (h w' _ (I.tok _) rw')
 ·subst ey
  cases (show u=Value.ref b from ry)
  obtain ⟨z,hd,xs,rel,dd⟩:=z0o I.hok e
  obtain ⟨w',hw,rw'⟩:=RelO.some_of (v:=v) (o:=(atKey xs k).map (·.2)) (by rw [l];exact rel.val k)
  obtain ⟨p,hp,hp2⟩:=Option.map_eq_some_iff.mp hw
  refine wpAny_getItem_heap (tupleKind_room_in1 hu) (QA I.hok eb) dd hp ?_
  rw [hp2]
  exact h w' _ (I.tok _) rw'
theorem d_in {Q:Value→Shared→Prop} (hu:A.units+1 < cLine) (I:Inv X pins σ H s) (g:DGet H a y o) (ry:RelV y u) (h:∀s',Inv X pins σ H s'→Q (.bool o.isSome) s'):
  wpAny (model X.prog X.w) A (compareOp .In u (.ref a)) Q E s:=by
 rcases g with ⟨kvs,k,e,ey,l⟩ | ⟨kvs,k,b,e,ey,eb,l⟩
 ·subst ey
  obtain ⟨z,hd,vs,rel,dd⟩:=z0p I.hok e
  refine wpAny_in_of (Jc ry) hd dd.mapOf ?_
  rw [←(rel.val k).isSome_eq,←l]
  exact h _ (I.tok _)
 ·subst ey
  cases (show u=Value.ref b from ry)
  obtain ⟨z,hd,xs,rel,dd⟩:=z0o I.hok e
  refine wpAny_in_heap (tupleKind_room_in1 hu) (QA I.hok eb) hd dd ?_
  have q:=(rel.val k).isSome_eq
  rw [Option.isSome_map] at q
  rw [←q,←l]
  exact h _ (I.tok _)
theorem Qc {h':Heap} {t':Nat} {ob:HO} (I:Inv X pins σ H s) (mu:Mut (H a)) (hs:Heap.SameBut a s.heap h') (he:∃q,h'.get? a=some q) (new:zN X.prog X.w (upd H a ob) h' a ob):
  Inv X pins σ (upd H a ob) { s with heap:=h',toks:=t' }:=
 I.write (x:=a) (e:=a) mu (.inl rfl) (fun b q hb z=>(hs.2 b hb).trans z) he new
theorem z1L {P:Program} {w:World} {H':Hp} {h':Heap} {kvs:List (Key × V)} {vs:List (Key × Value)} (z:kvs.length≤sizeLine) (hd:(a == sysModules)=false) (rel:KV kvs vs) (dd:h'.DictOf (zD P w) a vs):
  zN P w H' h' a (.dK kvs):=⟨z,hd,vs,rel,dd⟩
theorem z1P {H':Hp} {Q:Unit→Shared→Prop} (hu:A.units+1 < cLine) (I:Inv X pins σ H s) (g:DPut H a y v H') (ry:RelV y u) (rv:RelV v r) (h:∀s',Inv X pins σ H' s'→Q () s'):
  wpAny (model X.prog X.w) A (setItem (.ref a) u r) Q E s:=by
 rcases g with ⟨kvs,k,e,ey,l,eH⟩ | ⟨kvs,k,b,e,ey,eb,l,eH⟩
 ·subst ey eH
  obtain ⟨z,hd,vs,rel,dd⟩:=z2Q I.hok e
  have hz:vs.length≤sizeLine:=by rw [←rel.length];exact z
  have hl:(putK kvs k v).length≤sizeLine:=by have:=qi kvs k v;lia
  refine wpAny_setItem_pairs (hsz:=hz) (Jc ry) dd fun h' dd' hs=>h _ ?_
  have he:∃q,h'.get? a=some q:=let ⟨q,_,_,hq,_⟩:=dd';⟨q,hq⟩
  exact Qc I (by rw [e];exact True.intro) hs he (z1L hl hd (rel.put k rv) dd')
 ·subst ey eH
  cases (show u=Value.ref b from ry)
  obtain ⟨z,hd,xs,rel,dd⟩:=z5Q I.hok e
  have hz:xs.length≤sizeLine:=by rw [←Paired.length rel];exact z
  have hl:(putK kvs k v).length≤sizeLine:=by have:=qi kvs k v;lia
  refine wpAny_setItem_heap (hsz:=hz) (tupleKind_room_in1 hu) (QA I.hok eb) dd fun h' dd' hs=>h _ ?_
  obtain ⟨q,es,ep,hq,h2,h3,h4,_,h5⟩:=dd'
  refine Qc I (by rw [e];exact True.intro) hs ⟨q,hq⟩ ⟨hl,hd,_,(rel.put k eb rv).keeps fun c ys ec=>?_,q,es,ep,hq,h2,h3,h4,h5⟩
  rw [zc (jW ec e (fun z=>nomatch z))]
  exact ec
end
section
variable {X:Cx} {pins:List (Addr × Obj)} {σ:St} {H:Hp} {s:Shared} {a:Addr} {kvs:List (Key × V)} {k:Key} {u:Value} {A:Around} {E:Value→Shared→Prop}
end
def NoSl (i:Expr):Prop:=∀ov iv,subscripted i false ov iv=operate [ov,iv] (getItem ov iv)
theorem z0D {prog:Program} {w:World} {A:Around} {E:Value→Shared→Prop} {s:Shared} {env:Env} {value slice:Expr} {pos:Pos} {T id:String} {Q:Value→Shared→Prop}
  (hl:typeLookup (.type T) "__getitem__"=pure (some (.builtin id))) (hs:NoSl slice)
  (h:wpAny (model prog w) A (eval value env) (fun o s₁=>wpAny (model prog w) A (eval slice env) (fun i s₂=>s₂.TypeIs o T∧wpAny (model prog w) A (getItem o i) Q E s₂) E s₁) E s):
  wpAny (model prog w) A (eval (.Subscript value slice pos) env) Q E s:=by
 refine Subscript_ (wpAny_mono h (fun o s₁ h₁=>wpAny_mono h₁ (fun i s₂ h₂=>?_) fun _ _ x=>x) fun _ _ x=>x)
 obtain ⟨hT,h₂⟩:=h₂
 unfold subscriptTail
 refine wpAny_bind ?_
 rw [getitemInPython_of_ne hT.not_modules]
 refine wpAny_bind (wpAny_specialOf hT hl ?_)
 have fin:wpAny (model prog w) A (subscripted slice false o i) (fun r s₃=>wpAny (model prog w) A (letTemporaryGo value o r >>= fun _=>pure r) Q E s₃) E s₂:=by
  rw [hs o i]
  exact wpAny_operating (wpAny_mono h₂ (fun r s₃ h₃=>wpAny_bind (wpAny_letTemporaryGo (wpAny_pure h₃))) fun _ _ x=>x)
 first
  | exact wpAny_pure (wpAny_bind fin)
  | exact wpAny_bind (wpAny_pure (wpAny_bind fin))
  | exact wpAny_bind fin
theorem Jk {X:Cx} {pins:List (Addr × Obj)} {σ:St} {H:Hp} {s:Shared} {a:Addr} {y:V} {o:Option V} (I:Inv X pins σ H s) (g:DGet H a y o):s.TypeIs (.ref a) "dict":=by
 rcases g with ⟨kvs,k,e,_,_⟩ | ⟨kvs,k,b,e,_,_,_⟩
 ·obtain ⟨_,_,vs,_,dd⟩:=z0p I.hok e
  exact dd.typeIs
 ·obtain ⟨_,_,xs,_,dd⟩:=z0o I.hok e
  exact dd.typeIs
def z5q (td ty:TE):TE:=fun σ H Q=>td σ H fun x H1=>ty σ H1 fun y H2=>∃a v,x=.ref a∧DGet H2 a y (some v)∧Q v H2
def tDIn (ty td:TE):TE:=fun σ H Q=>ty σ H fun y H1=>td σ H1 fun x H2=>∃a o,x=.ref a∧DGet H2 a y o∧Q (.bl o.isSome) H2
def z5w (td ty tv:TE):TS:=fun D σ H=>tv σ H fun v H1=>td σ H1 fun x H2=>ty σ H2 fun y H3=>∃a H4,x=.ref a∧DPut H3 a y v H4∧D.nx σ H4
section
variable {X:Cx} {o i e value:Expr} {pos pos' tpos:Pos} {td ty tv:TE}
theorem J7 (hu:X.A.units+1 < cLine) (ho:PE X o td) (hi:PE X i ty) (hs:NoSl i):PE X (.Subscript o i pos) (z5q td ty):=by
 intro pins s σ H Q I h
 refine z0D PySem.F.slot_dict_getitem.lookup hs (thn (ho pins s σ H _ I h) fun u s1 ⟨x,H1,I1,rx,q1⟩=>thn (hi pins s1 σ H1 _ I1 q1) fun iv s2 zz=>?_)
 obtain ⟨y,H2,I2,ry,a,v,ex,g,q2⟩:=zz
 subst ex
 obtain rfl:u=Value.ref a:=rx
 exact ⟨Jk I2 g,z1Q hu I2 g ry fun w' s3 I3 rw'=>⟨v,H2,I3,rw',q2⟩⟩
theorem z4N (hu:X.A.units+1 < cLine) (hi:PE X i ty) (ho:PE X o td):PC X .In i o (tDIn ty td):=by
 intro pins s σ H Q I h
 refine thn (hi pins s σ H _ I h) fun iv s1 ⟨y,H1,I1,ry,q1⟩=>thn (ho pins s1 σ H1 _ I1 q1) fun u s2 zz=>?_
 obtain ⟨x,H2,I2,rx,a,ov,ex,g,q2⟩:=zz
 subst ex
 obtain rfl:u=Value.ref a:=rx
 exact d_in hu I2 g ry fun s3 I3=>⟨.bl ov.isSome,H2,I3,rfl,q2⟩
theorem z3O (hu:X.A.units+1 < cLine) (ho:PE X o td) (hi:PE X i ty) (hv:PE X value tv) (hs:swapsWith value (some (.Subscript o i pos')) pos.line X.env=pure false):
  PS X (.Assign [.Subscript o i pos'] value pos) (z5w td ty tv):=by
 intro pins s σ H D I h
 refine wpAny_Assign_Subscript (thn (hv pins s σ H _ I h) fun r s1 ⟨v,H1,I1,rv,q1⟩=>thn (ho pins s1 σ H1 _ I1 q1) fun u s2 ⟨x,H2,I2,rx,q2⟩=>thn (hi pins s2 σ H2 _ I2 q2) fun iv s3 ⟨y,H3,I3,ry,a,H4,ex,g,q3⟩=>?_) hs
 subst ex
 obtain rfl:u=Value.ref a:=rx
 exact z1P hu I3 g ry rv fun s4 I4=>⟨σ,H4,I4,q3⟩
end
theorem JO {P:Program} {w:World} {H:Hp} (h:Heap) (hb:sysModules < h.objs.size):zN P w H (h.push { cls:=.type "dict",data:=.dict #[] }) h.objs.size (.dK []):=
 ⟨Nat.zero_le _,beq_eq_false_iff_ne.mpr (Ne.symm (Nat.ne_of_lt hb)),[],.nil,Heap.DictOf.new h⟩
def z4r:TE:=fun _ H Q=>∀p,H p=none→Q (.ref p) (upd H p (.dK []))
section
variable {X:Cx} {pos:Pos}
theorem z2l:PE X (.Dict [] [] pos) z4r:=fun pins s σ H Q I h=>
 wpAny_Dict_empty ⟨.ref s.heap.objs.size,_,I.laid (a:=s.heap.objs.size) (o:=.dK []) (t':=s.toks) (fun _ _ q=>Heap.get?_push_of_some _ q) (kc _) (JO s.heap I.big),rfl,h _ (I.hok.fresh (kc _))⟩
end
def z0A:List (TE × TE)→St→Hp→(List (V × V)→Hp→Prop)→Prop
 | [],_,H,Q=>Q [] H
 | (tk,tv) :: r,σ,H,Q=>tk σ H fun x H1=>tv σ H1 fun y H2=>z0A r σ H2 fun ps H3=>Q ((x,y) :: ps) H3
abbrev VV:List (V × V)→List (Value × Value)→Prop:=Paired fun p q=>RelV p.1 q.1∧RelV p.2 q.2
def PPs (X:Cx) (pos:Pos) (keys:List (Option Expr)) (values:List Expr) (trs:List (TE × TE)):Prop:=
 ∀(pins:List (Addr × Obj)) (s:Shared) (σ:St) (H:Hp) (Q:List (V × V)→Hp→Prop),Inv X pins σ H s→z0A trs σ H Q→
  wpAny (model X.prog X.w) X.A (evalPairs (pairTrees keys values X.env pos)) (fun vs s'=>∃ps H',Inv X pins σ H' s'∧VV ps vs∧Q ps H') X.xe s
theorem z0Y {X:Cx} {pos:Pos}:PPs X pos [] [] []:=fun pins s σ H Q I h=>pairTrees_nil_walk ⟨[],H,I,.nil,h⟩
theorem jp {X:Cx} {pos:Pos} {k v:Expr} {ks:List (Option Expr)} {vs:List Expr} {tk tv:TE} {trs:List (TE × TE)} (hk:PE X k tk) (hv:PE X v tv) (hr:PPs X pos ks vs trs):
  PPs X pos (some k :: ks) (v :: vs) ((tk,tv) :: trs):=fun pins s σ H Q I h=>
 pairTrees_cons_walk (thn (hk pins s σ H _ I h) fun u s1 ⟨x,H1,I1,rx,q1⟩=>thn (hv pins s1 σ H1 _ I1 q1) fun w2 s2 ⟨y,H2,I2,ry,q2⟩=>
  thn (hr pins s2 σ H2 _ I2 q2) fun ws s3 ⟨ps,H3,I3,rel,q3⟩=>⟨(x,y) :: ps,H3,I3,.cons ⟨rx,ry⟩ rel,q3⟩)
noncomputable def jN (kvs more:List (Key × V)):List (Key × V):=more.foldl (fun acc kv=>putK acc kv.1 kv.2) kvs
theorem KV.merge:∀{more:List (Key × V)} {rs:List (Key × Value)} {kvs:List (Key × V)} {vs:List (Key × Value)},KV more rs→KV kvs vs→KV (jN kvs more) (merged vs rs):=by
 intro more rs kvs vs r
 unfold KV at r
 induction r generalizing kvs vs with
 | nil=>intro q;exact q
 | @cons p q ps qs h t ih=>
  intro r0
  have e:KV (putK kvs p.1 p.2) (stored vs q.1 q.2):=by
   have:=r0.put p.1 h.2
   rw [←h.1];exact this
  exact ih e
theorem jw:∀(more kvs:List (Key × V)),(jN kvs more).length≤kvs.length+more.length
 | [],kvs=>by show kvs.length≤kvs.length+0;lia
 | p :: r,kvs=>by
  have h1:=jw r (putK kvs p.1 p.2)
  have h2:=qi kvs p.1 p.2
  show (jN (putK kvs p.1 p.2) r).length≤_
  rw [kI];lia
theorem ZL {P:Program} {w:World}:∀{kvs:List (Key × V)} {ws:List (Value × Value)},VV (kvs.map fun kv=>(kV kv.1,kv.2)) ws→∃rs,Carries (zD P w) ws rs∧KV kvs rs
 | [],_,r=>by rw [List.map_nil] at r;cases r;exact ⟨[],True.intro,.nil⟩
 | p :: kvs,_,r=>by
  rw [kM] at r
  cases r with
  | @cons a b as bs h t=>
   obtain ⟨rs,c,q⟩:=ZL (P:=P) (w:=w) t
   obtain ⟨b1,b2⟩:=b
   exact ⟨(p.1,b2) :: rs,⟨Jc h.1,rfl,c⟩,.cons ⟨rfl,h.2⟩ q⟩
def z5p (trs:List (TE × TE)):TE:=fun σ H Q=>∀p,H p=none→z0A trs σ (upd H p (.dK [])) fun ps H2=>H2 p=some (.dK [])∧∃kvs:List (Key × V),ps=kvs.map (fun kv=>(kV kv.1,kv.2))∧kvs.length≤15∧Q (.ref p) (upd H2 p (.dK (jN [] kvs)))
theorem z17 {X:Cx} {pos:Pos} {keys:List (Option Expr)} {values:List Expr} {trs:List (TE × TE)} (h:PPs X pos keys values trs) (hall:keys.all (·.isSome)=true) (hl:keys.length=values.length) (h0:keys≠[])
  (h15:keys.length≤15):PE X (.Dict keys values pos) (z5p trs):=by
 intro pins s σ H Q I q
 have hn:=I.hok.fresh (kc s.heap.objs.size)
 have I1:=I.laid (a:=s.heap.objs.size) (o:=.dK []) (h':=s.heap.push { cls:=.type "dict",data:=.dict #[] }) (t':=s.toks) (fun _ _ q=>Heap.get?_push_of_some _ q) (kc _) (JO s.heap I.big)
 refine wpAny_Dict_walk (knd:=zD X.prog X.w) hall hl h0 h15 (thn (h pins _ σ _ _ I1 (q _ hn)) fun ws s2 zz=>?_)
 obtain ⟨ps,H2,I2,rel,e,kvs,ep,lk,q2⟩:=zz
 subst ep
 obtain ⟨rs,c,rk⟩:=ZL (P:=X.prog) (w:=X.w) rel
 obtain ⟨z,hd,vs0,r0,dd⟩:=z2Q I2.hok e
 cases r0
 refine ⟨rs,c,dd,fun h' dd' hs=>⟨.ref s.heap.objs.size,_,?_,rfl,q2⟩⟩
 have hz:(jN [] kvs).length≤sizeLine:=by
  have h1:=jw kvs []
  rw [List.length_nil] at h1
  rw [sizeLine_eq];lia
 have he:∃q,h'.get? s.heap.objs.size=some q:=let ⟨q,_,_,hq,_⟩:=dd';⟨q,hq⟩
 exact Qc I2 (by rw [e];exact True.intro) hs he (z1L hz hd (rk.merge .nil) dd')
structure M1 (X:Cx) (o:Expr) (m:Str) (apos:Pos) (e:Expr) (cpos:Pos):Prop where
 base:attributeBase o m X.env (eval o X.env)=eval o X.env
 few:((backTo cpos (starEach [e] X.env)).all (fun x=> !x.1)&&(backToKw cpos (keywordEach [] X.env)).all (fun x=>x.1.isSome)
  &&decide (([e]:List Expr).length+([]:List Keyword).length+(if ([]:List Keyword).isEmpty then 0 else 1) < 30))=true
 line:(apos.endLine == cpos.line)=true
 trees:backTo cpos (starEach [e] X.env)=[(false,eval e X.env)]
structure M2 (X:Cx) (o:Expr) (m:Str) (apos:Pos) (e f:Expr) (cpos:Pos):Prop where
 base:attributeBase o m X.env (eval o X.env)=eval o X.env
 few:((backTo cpos (starEach [e,f] X.env)).all (fun x=> !x.1)&&(backToKw cpos (keywordEach [] X.env)).all (fun x=>x.1.isSome)
  &&decide (([e,f]:List Expr).length+([]:List Keyword).length+(if ([]:List Keyword).isEmpty then 0 else 1) < 30))=true
 line:(apos.endLine == cpos.line)=true
 trees:backTo cpos (starEach [e,f] X.env)=[(false,eval e X.env),(false,eval f X.env)]
def IsD (H:Hp) (a:Addr):Prop:=(∃kvs,Rd H a (.dK kvs))∨∃kvs,Rd H a (.dT kvs)
theorem z3p {X:Cx} {pins:List (Addr × Obj)} {σ:St} {H:Hp} {s:Shared} {a:Addr} (I:Inv X pins σ H s) (d:IsD H a):
  s.TypeIs (.ref a) "dict"∧(∀b,Value.ref a=.ref b→∃ob,s.heap.get? b=some ob∧ob.dict=none)∧(a == sysModules)=false:=by
 rcases d with ⟨kvs,e⟩ | ⟨kvs,e⟩
 ·obtain ⟨_,hd,vs,_,dd⟩:=z0p I.hok e
  refine ⟨dd.typeIs,fun b q=>?_,hd⟩
  cases q
  obtain ⟨ob,_,_,h1,h2,_⟩:=dd
  exact ⟨ob,h1,h2.2.1⟩
 ·obtain ⟨_,hd,xs,_,dd⟩:=z0o I.hok e
  refine ⟨dd.typeIs,fun b q=>?_,hd⟩
  cases q
  obtain ⟨ob,_,_,h1,h2,_⟩:=dd
  exact ⟨ob,h1,h2.2.1⟩
section
variable {X:Cx} {pins:List (Addr × Obj)} {σ:St} {H:Hp} {s:Shared} {a:Addr} {y d:V} {u r:Value} {o:Option V} {A:Around} {E:Value→Shared→Prop}
theorem z5g {Q:Value→Shared→Prop} (hu:A.units+1 < cLine) (I:Inv X pins σ H s) (g:DGet H a y o) (ry:RelV y u) (h:∀w' s',Inv X pins σ H s'→RelV (o.getD .non) w'→Q w' s'):
  wpAny (model X.prog X.w) A (call (.builtin "dict.get") [.ref a,u]) Q E s:=by
 rcases g with ⟨kvs,k,e,ey,l⟩ | ⟨kvs,k,b,e,ey,eb,l⟩
 ·subst ey
  obtain ⟨z,hd,vs,rel,dd⟩:=z0p I.hok e
  refine call_meetsIn PySem.F.slot_dict_get dd.typeIs PySem.F.entry_dict_get (PySem.F.args_dict_get_2 _ _) (meets_dict_get (zD X.prog X.w) a (Jc ry) hd) ⟨_,dd.mapOf,h _ _ (I.tok _) ?_⟩
  rw [l]
  exact (rel.val k).getD rfl
 ·subst ey
  cases (show u=Value.ref b from ry)
  obtain ⟨z,hd,xs,rel,dd⟩:=z0o I.hok e
  refine call_meetsIn PySem.F.slot_dict_get dd.typeIs PySem.F.entry_dict_get (PySem.F.args_dict_get_2 _ _) (meetsH_dict_get (tupleKind (zD X.prog X.w)) a b hd) ⟨tupleKind_room_in1 hu,k,xs,QA I.hok eb,dd,h _ _ (I.tok _) ?_⟩
  rw [l]
  exact (rel.val k).getD rfl
end
def z4s (td ty:TE):TE:=fun σ H Q=>td σ H fun x H1=>∃a,x=.ref a∧IsD H1 a∧ty σ H1 fun y H2=>∃o,DGet H2 a y o∧Q (o.getD .non) H2
section
variable {X:Cx} {o e f:Expr} {apos cpos:Pos} {td ty tx:TE}
theorem z2m (hu:X.A.units+1 < cLine) (ho:PE X o td) (he:PE X e ty) (m:M1 X o "get" apos e cpos):PE X (.Call (.Attribute o "get" apos) [e] [] cpos) (z4s td ty):=by
 intro pins s σ H Q I h
 refine wpAny_Call_method m.base m.few m.line PySem.F.plainAttrs_dict PySem.F.slot_dict_get PySem.F.type_dict_get (thn (ho pins s σ H _ I h) fun u s1 zz=>?_)
 obtain ⟨x,H1,I1,rx,a,ex,d,q1⟩:=zz
 subst ex
 obtain rfl:u=Value.ref a:=rx
 obtain ⟨t1,t2,_⟩:=z3p I1 d
 refine ⟨t1,t2,?_⟩
 rw [m.trees]
 refine Calls.callWith_builtin rfl (Calls.evalArgs_plain (Calls.spliced_cons (thn (he pins s1 σ H1 _ I1 q1) fun iv s2 ⟨y,H2,I2,ry,ov,g,q2⟩=>Calls.spliced_nil ?_)))
 exact z5g hu I2 g ry fun w' s3 I3 rw'=>⟨_,H2,I3,rw',q2⟩
end
section
variable {X:Cx} {pins:List (Addr × Obj)} {σ:St} {H:Hp} {s:Shared} {a:Addr} {kvs:List (Key × V)} {A:Around} {E:Value→Shared→Prop}
end
section
variable {X:Cx} {pins:List (Addr × Obj)} {σ:St} {H:Hp} {s:Shared} {a:Addr} {y:V} {u:Value} {A:Around} {E:Value→Shared→Prop}
end
end L2
namespace Att
open PySem PySem.W PySem.Calls PyProof.Rows
theorem Zp {P:Params} {h:Heap}:∀(ns:List Int) (vs:List Value),WellAll P h vs (ns.map WData.int)→IntsAre vs ns:=by
 intro ns
 induction ns with
 | nil=>
  intro vs w
  rw [List.map_nil] at w
  cases w
  exact .nil
 | cons n ns ih=>
  intro vs w
  rw [kM] at w
  cases w with
  | cons a b=>
   cases a
   exact .cons _ _ (ih _ b)
theorem z0Q {l:OpenLaw} {n:Nat} (hn:l.most=some n) {P:Params} {h:Heap} {args:List WData} {vals:List Value}
  (hpre:l.row.toRowW.claim.pre args=true) (hwl:WellAll P h vals args):
  ∃a vs ns,vals=[Value.ref a]∧args=[WData.list (ns.map WData.int)]∧h.get? a=some { cls:=.type "list",data:=.seq vs.toArray }∧IntsAre vs ns∧ns.length≤n:=by
 have hsh:WShape.hasAll [] args [.list .int]=true:=(pre_splitW hpre).1
 have hc:l.pre.holds [] { args:=args }=true:=(pre_splitW hpre).2
 obtain ⟨d,r,rfl,h1,h2⟩:=hasAllW_cons hsh
 obtain rfl:=hasAllW_nil h2
 obtain ⟨xs,rfl,h3⟩:=hasW_list h1
 obtain ⟨ns,rfl⟩:=items_int h3
 have hlen:ns.length≤n:=by
  unfold OpenLaw.pre at hc
  have h4:(WTm.not (.lt (.lit (.int (n:Int))) (.len (.arg 0)))).holds [] { args:=[.list (ns.map .int)] }=true:=by
   have h4:=(holds_andW hc).1
   rw [hn] at h4
   exact h4
  have h5:=condW_of h4 (w_not (w_lt w_lit (w_len_list (w_arg rfl))))
  rw [kg] at h5
  refine Nat.le_of_not_lt fun q=>?_
  have q':(n:Int) < ((ns.length:Nat):Int):=by lia
  first
   | (rw [kf q'] at h5;exact absurd h5 (by decide))
   | (simp at h5;lia)
 cases hwl with
 | cons w1 w2=>
  cases w2
  cases w1 with
  | list ho hall=>exact ⟨_,_,ns,rfl,rfl,ho,Zp ns _ hall,hlen⟩
theorem z0Z (l:OpenLaw) (args:List WData):l.row.toRowW.claim.post args (.bool true) args=true:=
 postW_of (r:=l.row.toRowW) (X:=(true == true))
  (show WShape.has [] (.bool true) .bool=true by first | rfl | decide | simp [WShape.has,WShape.arms,WShape.armsAll])
  (show (WTm.eq .res (.lit (.bool true))).value [] { args:=args,res:=some (.bool true),after:=args }=some (.bool (true == true)) from w_eq_bool (w_res rfl) w_lit) rfl
theorem attach_call {l:OpenLaw} {n:Nat} {q:Program} {loose:List Str} {XP:(Str→Option Value)→Heap→Prop} {YP:World→Heap→Prop} {d:DefRec}
  (hn:l.most=some n) (hdf:d.params.defaults=[])
  (call:∀(w:World) (s₀ s₁:Shared) (mg mb:Str→Option Value) (fa:Addr) (o:Obj) (pm cd doc:Value) (a:Addr) (vs:List Value) (ns:List Int),
   Ground q loose [] XP w s₀ mg mb s₁.heap→YP w s₁.heap→
   s₁.heap.get? fa=some o→o.data=.func (docDef d.name d.params d.body d.scope pm cd doc)→s₁.heap.CodeRec cd d.name→mg d.name=some (.ref fa)→
   s₁.heap.get? a=some { cls:=.type "list",data:=.seq vs.toArray }→IntsAre vs ns→ns.length≤n→s₁.gens=#[]→
   codeAny (model l.prog w) callerA (.call (.ref fa) ⟨[.ref a],[]⟩) (fun r s'=>r=.ok (.ret (.bool true))∧OldK s₁.heap s'.heap∧s'.os=s₁.os∧AllBare s'.gens) s₁):
  WalkO q loose XP YP l.row.toRowW d [] (fun f vs=>PySem.call f vs):=by
 intro w s₀ s₁ mg mb G Y fa o pm cd doc dV kV ho hd hcd hD hmg hg args vals as hpre hlay hrd hwl hlo
 obtain rfl:dV=.none:=Dflts.none hD hdf
 obtain rfl:kV=.none:=Dflts.noKw hD
 obtain ⟨a,vs,ns,rfl,rfl,hobj,hints,hlen⟩:=z0Q hn hpre hwl
 refine enter_call (codeAny_mono (call w s₀ s₁ mg mb fa o pm cd doc a vs ns G Y ho (fd_plain hd) hcd hmg hobj hints hlen hg) fun r s' hq=>?_)
 obtain ⟨rfl,h2,h3,h4⟩:=hq
 exact ⟨.inl ⟨.bool true,.bool true,[],rfl,fun _=>rfl,.bool true,z0Z l _,fun _=>⟨List.Pairwise.nil,fun _ hm=>(nomatch hm)⟩⟩,h2,h3,h4⟩
section
variable {prog:Program} {w:World} {A:Around} {E:Value→Shared→Prop} {s:Shared} {K:Frag}
end
end Att
namespace L2
open PySem PySem.Spec PyProof.Rows
theorem Z9:∀{vs:List Value} {ns:List Int},IntsAre vs ns→Vals (ns.map V.int) vs
 | _,_,.nil=>.nil
 | _,_,.cons n t h=>.cons ⟨t,rfl⟩ (Z9 h)
def Only (H:Hp):Prop:=∀b,H b=none∨∃o xs,H b=some (.frz o (.lst xs))
theorem z2v {P:Program} {w:World} {K:ko} {mg mb:Str→Option Value} {CX:CXT} {k:Nat} {fa a:Addr} {fd:FuncData} {x:Str} {sp:Sp} {s₁:Shared} {vs:List Value} {ns:List Int}
  (KX:K.In s₁.heap) (hns:s₁.heap.Ns mainGlobals mg) (hb:s₁.heap.Ns builtinsNs mb) (hbb:∀x:Str,x≠"__name__"→mb x=bootBuiltins x) (hlim:s₁.heap.NoLimit) (hg:s₁.gens=#[])
  (ha:s₁.heap.get? a=some { cls:=.type "list",data:=.seq vs.toArray }) (hi:IntsAre vs ns) (hl:ns.length≤sizeLine) (hr:Room k callerA)
  (F:∀base:Heap,K.In base→base.Ns mainGlobals mg→FnOk P w K mg base CX k fa fd [x] sp) (hbind:∀(s:Shared) (u:Value),BindsTo s fd ⟨[u],[]⟩ [(x,u)])
  (hsp:∀H:Hp,Only H→SqL K H a (ns.map V.int)→sp [.ref a] H (fun v _=>v=.bl true) fun _ _ _=>False)
  (hCX:∀H e s',CX [] H s₁ (fun _ _ _=>False) e s'→False):
  codeAny (model P w) callerA (.call (.ref fa) ⟨[.ref a],[]⟩) (fun r s'=>r=.ok (.ret (.bool true))∧OldK s₁.heap s'.heap∧s'.os=s₁.os∧AllBare s'.gens) s₁:=by
 have rv:=Z9 hi
 have lenV:=hi.length
 have core:∀H:Hp,Only H→SqL K H a (ns.map V.int)→HOk P w H s₁.heap→(∀b,H b≠none→b=a)→(H a≠none→K.lookup a=none)→
   codeAny (model P w) callerA (.call (.ref fa) ⟨[.ref a],[]⟩) (fun r s'=>r=.ok (.ret (.bool true))∧OldK s₁.heap s'.heap∧s'.os=s₁.os∧AllBare s'.gens) s₁:=by
  intro H hO hS hok hA hK
  have base_of:∀{b:Addr} {o:Obj},s₁.heap.get? b=some o→H b=none→(hidT s₁.heap H).get? b=some o:=fun e n=>z2A e n
  have noA:∀{b:Addr} {o:Obj} {es:Array DictEntry} {ep:Nat},s₁.heap.get? b=some o→o.data=.dict es ep→H b=none:=fun {b o es ep} e d=>by
   cases q:H b with
   | none=>rfl
   | some u=>
    have e':b=a:=hA b (by rw [q];simp)
    subst e'
    rw [ha] at e;cases e
    have d':Data.seq vs.toArray _=Data.dict es ep:=d
    cases d'
  have nsK:∀{b:Addr} {m:Str→Option Value},s₁.heap.Ns b m→(hidT s₁.heap H).Ns b m:=fun {b m} ⟨o,es,ep,e,d,r⟩=>⟨o,es,ep,base_of e (noA e d),d,r⟩
  have hKb:K.In (hidT s₁.heap H):=fun b o e=>base_of (KX b o e) (by
   cases q:H b with
   | none=>rfl
   | some u=>
    have e':b=a:=hA b (by rw [q];simp)
    subst e'
    rw [hK (by rw [q];simp)] at e;cases e)
  have hM:Mod K mg (hidT s₁.heap H):=⟨hKb,nsK hns,⟨mb,nsK hb,hbb⟩,let ⟨mc,h1,h2⟩:=hlim;⟨mc,nsK h1,h2⟩⟩
  have e0:Env0 P w K mg (hidT s₁.heap H) callerA [] s₁ H:=⟨rfl,hM,fun b o e=>z3U e,kP (z1v _ _),trivial,fun b hb=>absurd (show b∈([]:List Addr) from hb) (by simp),hok,.of_eq hg⟩
  refine codeAny_mono ((F _ hKb (nsK hns)).run callerA [] s₁ H ⟨[.ref a],[]⟩ [.ref a] [.ref a] _ _ hr e0 (hbind s₁ (.ref a)) (.cons rfl .nil) (hsp H hO hS)) fun r s' h=>?_
  cases r with
  | error e=>exact (hCX H e s' h).elim
  | ok fl=>
   cases fl with
   | next=>exact False.elim h
   | brk=>exact False.elim h
   | cont=>exact False.elim h
   | ret u=>
    obtain ⟨v,H',os,bare,un,hok',r',q⟩:=h
    have q':v=.bl true:=q
    subst q'
    obtain rfl:u=Value.bool true:=r'
    refine ⟨rfl,OldK.of_keep fun b o e=>?_,os,bare⟩
    cases q:H b with
    | none=>exact un.keep b o e q (by intro z;exact absurd (show b∈([]:List Addr) from z) (by simp)) (by simp)
    | some u=>
     rcases hO b with z | ⟨ob,xs,z⟩
     ·rw [q] at z;cases z
     ·have z2:=un.frzs b ob _ z
      obtain ⟨e1,_⟩:=hok b _ z
      obtain ⟨e2,_⟩:=hok' b _ z2
      rw [e] at e1;cases e1
      exact e2
 cases hk:K.lookup a with
 | some o=>
  have e:=KX a o hk
  rw [ha] at e
  cases e
  refine core (fun _=>none) (fun _=>.inl rfl) (.inr ⟨_,vs.toArray,_,hk,rfl,rfl,rfl,by rw [ky,lenV];exact hl,by simpa using rv⟩) (fun b u z=>by have z':(none:Option HO)=some u:=z;cases z') (fun b z=>absurd rfl z) fun z=>absurd rfl z
 | none=>
  refine core (fun b=>if b=a then some (.frz { cls:=.type "list",data:=.seq vs.toArray } (.lst (ns.map V.int))) else none) (fun b=>?_) (.inl (.inr ⟨{ cls:=.type "list",data:=.seq vs.toArray },kr rfl⟩)) (fun b u z=>?_) (fun b z=>?_) fun _=>hk
  ·by_cases hb:b=a
   ·exact .inr ⟨_,_,kr hb⟩
   ·exact .inl (kq hb)
  ·by_cases hb:b=a
   ·have z':=(kr hb).symm.trans z
    cases z'
    subst hb
    exact ⟨ha,by rw [kg];exact hl,vs,_,rv,ha⟩
   ·have z':=(kq hb).symm.trans z
    cases z'
  ·by_cases hb:b=a
   ·exact hb
   ·exact absurd (kq hb) z
end L2
namespace L2
open PySem PySem.Spec PyProof.Rows
theorem z3D {l:PySem.W.OpenLaw} {n k:Nat} {q:Program} {loose:List Str} {XP:(Str→Option Value)→Heap→Prop} {YP:World→Heap→Prop} {d:DefRec} {K:Params→ko} {CX:World→CXT} {sp:World→Sp} {x:Str}
  (hn:l.most=some n) (hn2:n≤sizeLine) (hdf:d.params.defaults=[]) (hr:Room k callerA)
  (hY:∀(w:World) (h:Heap),YP w h→(K w.params).In h)
  (F:∀(w:World) (mg:Str→Option Value) (fa:Addr) (h:Heap),(K w.params).In h→h.Ns mainGlobals mg→mg d.name=some (.ref fa)→
   ∃fd:FuncData,(∀(s:Shared) (u:Value),BindsTo s fd ⟨[u],[]⟩ [(x,u)])∧
    ∀base:Heap,(K w.params).In base→base.Ns mainGlobals mg→FnOk l.prog w (K w.params) mg base (CX w) k fa fd [x] (sp w))
  (hsp:∀(w:World) (H:Hp) (a:Addr) (ns:List Int),ns.length≤n→Only H→SqL (K w.params) H a (ns.map V.int)→sp w [.ref a] H (fun v _=>v=.bl true) fun _ _ _=>False)
  (hCX:∀(w:World) (H:Hp) (s:Shared) (e:Value) (s':Shared),CX w [] H s (fun _ _ _=>False) e s'→False):
  PySem.W.WalkO q loose XP YP l.row.toRowW d [] (fun f vs=>PySem.call f vs):=by
 refine Att.attach_call hn hdf fun w s₀ s₁ mg mb fa o pm cd doc a vs ns G Y ho hd hcd hmg hobj hints hlen hg=>?_
 have KX:=hY w _ Y
 obtain ⟨fd,hb,hF⟩:=F w mg fa _ KX G.T.g hmg
 exact z2v KX G.T.g G.T.b G.T.builtins G.T.nolimit hg hobj hints (km hlen hn2) hr hF hb (fun H hO hS=>hsp w H a ns hlen hO hS) fun H e s'=>hCX w H s₁ e s'
end L2
namespace L2
open PySem PySem.Spec PyProof.Rows
noncomputable def zX (s:Stmt):Arguments:=match s with
 | .FunctionDef _ a _ _ _ _ _ _ _ _=>a
 | _=>{ posonlyargs:=[],args:=[],vararg:=none,kwonlyargs:=[],kw_defaults:=[],kwarg:=none,defaults:=[] }
noncomputable def zH (s:Stmt):List Stmt:=match s with
 | .FunctionDef _ _ b _ _ _ _ _ _ _=>b
 | _=>[]
noncomputable def zd (s:Stmt):Scope:=match s with
 | .FunctionDef _ _ _ _ _ _ sc _ _ _=>sc
 | _=>{ kind:=.function,names:=[],isGenerator:=false,isCoroutine:=false }
abbrev CX0:CXT:=fun _ _ _ _ _ _=>False
abbrev E0:XK:=fun _ _ _=>False
theorem z3Q {X:Cx}:z24 CX0 X E0:=fun _ _ _ _ _ _ _ h=>h.elim
structure Fun (K:ko) (x qual:Str) (st:Stmt) (f:Addr) (fd:FuncData):Prop where
 ex:∃(oc:Value) (od:Option Addr) (kV doc pm:Value) (an:Option Addr) (cdv ct:Value) (osl:Array (Option Value)),
  fd=PySem.W.fnOf x qual (zX st) (zH st) (zd st) .none kV doc pm an cdv ct∧K.lookup f=some ⟨oc,od,.func fd,osl⟩∧PySem.W.codeIn K cdv qual=true
 kp:PySem.W.keepIn K (.ref f)=true
section
variable {P:Program} {w:World} {K:ko} {mg:Str→Option Value} {base:Heap}
theorem Fun.ok {x qual:Str} {st:Stmt} {f:Addr} {fd:FuncData} {N ps:List Str} {k:Nat} {sp:Sp} (F:Fun K x qual st f fd) (S:zh N ps (zd st)) (len:∀vs H Q E,sp vs H Q E→vs.length=ps.length)
  (hbody:∀(cdv:Value) (A:Around) (outer:List Env) (s:Shared) (H:Hp) (vs:List V) (Q:VK) (E:XK),Room k (A.deeper (envOfC qual (zd st) s.heap.objs.size f cdv))→sp vs H Q E→
   ∃t,PSs (cxOf CX0 P w K mg base N qual (zd st) f cdv A outer s H E).nox (zH st) t∧t { nx:=fun _ H'=>Q .non H',rt:=Q } (jh N vs) H):FnOk P w K mg base CX0 (k+1) f fd ps sp:=by
 obtain ⟨oc,od,kV,doc,pm,an,cdv,ct,osl,rfl,lk,hcd⟩:=F.ex
 refine z5a lk hcd S len fun A outer s H vs Q E hr hsp=>?_
 obtain ⟨t,h,q⟩:=hbody cdv A outer s H vs Q E hr hsp
 exact ⟨t,h.nox,q⟩
theorem Fun.binds {x qual:Str} {st:Stmt} {f:Addr} {fd:FuncData} {ps:List Str} (F:Fun K x qual st f fd)
  (h:∀(kV doc pm:Value) (an:Option Addr) (cdv ct:Value) (us:List Value),us.length=ps.length→bindArgs (PySem.W.fnOf x qual (zX st) (zH st) (zd st) .none kV doc pm an cdv ct) ⟨us,[]⟩=pure (ps.zip us)):ZB K fd ps []:=by
 obtain ⟨oc,od,kV,doc,pm,an,cdv,ct,osl,rfl,lk,hcd⟩:=F.ex
 exact .all (h kV doc pm an cdv ct)
theorem z3u {x qual:Str} {st:Stmt} {f:Addr} {oc:Value} {od an:Option Addr} {osl:Array (Option Value)} {kV doc pm cdv ct:Value} (l:K.lookup f=some ⟨oc,od,.func (PySem.W.fnOf x qual (zX st) (zH st) (zd st) .none kV doc pm an cdv ct),osl⟩)
  (c:PySem.W.codeIn K cdv qual=true) (k:PySem.W.keepIn K (.ref f)=true):Fun K x qual st f (PySem.W.fnOf x qual (zX st) (zH st) (zd st) .none kV doc pm an cdv ct):=⟨⟨oc,od,kV,doc,pm,an,cdv,ct,osl,rfl,l,c⟩,k⟩
end
theorem z2z {A:Around} {k:Nat} (hr:Room k A):A.units+1 < cLine:=Nat.lt_of_le_of_lt (Nat.add_le_add_left (by decide:1≤64) _) hr.units
theorem qj {n:Nat} (h:n≤1000):n < sizeLine:=Nat.lt_of_le_of_lt h (by decide)
section
variable {X:Cx}
theorem pv (i:Nat) {x:Str} {pos:Pos} (hN:autoParam (X.N[i]?=some x) aR._auto_1) (hv:Vis X.env.scope x:=by first | exact Or.inl rfl | exact Or.inr (Or.inl rfl) | exact Or.inr (Or.inr rfl)) (hd:autoParam ((x == ("__debug__":Str))=false) aR._auto_2)
  (hcd:autoParam ((x == ("__classdict__":Str))=false) aR._auto_2):PE X (.Name x pos) (tVar i):=z4J hN hv hd hcd
end
theorem iteF {A B:Prop} (h:B):if false=true then A else B:=by
 rw [kq ka]
 exact h
theorem iteT {A B:Prop} (h:A):if true=true then A else B:=by
 rw [kr rfl]
 exact h
theorem ite2 {c A B:Prop} [Decidable c] (h1:c→A) (h2:¬c→B):if c then A else B:=by
 by_cases h:c
 ·rw [kr h]
  exact h1 h
 ·rw [kq h]
  exact h2 h
def Same (H H':Hp):Prop:=∀b o,H b=some o→H' b=some o
theorem Same.refl (H:Hp):Same H H:=fun _ _ h=>h
theorem Same.trans {H H1 H2:Hp} (a:Same H H1) (b:Same H1 H2):Same H H2:=fun c o h=>b c o (a c o h)
theorem Same.free {H H':Hp} (e:Same H H') {l:Addr} (h:H' l=Option.none):H l=Option.none:=by
 cases q:H l with
 | none=>rfl
 | some o=>
  rw [e l o q] at h
  cases h
theorem Same.seq {K:ko} {H H':Hp} {a:Addr} {xs:List V} (e:Same H H') (h:SqL K H a xs):SqL K H' a xs:=by
 rcases h with (h | ⟨o,h⟩) | h
 ·exact .inl (.inl (e _ _ h))
 ·exact .inl (.inr ⟨o,e _ _ h⟩)
 ·exact .inr h
section
variable {κ:Type} [DecidableEq κ]
end
end L2
set_option genInjectivity false
set_option maxRecDepth 100000
set_option maxHeartbeats 4000000
namespace L2
open PySem PySem.Spec PyProof.Rows
theorem Qw {names:List (Str × NameKind)} {k:NameKind} (h:∀y∈names,y.2≠k) (x:Str):names.lookup x≠some k:=fun e=>h _ (PySem.mem_of_lookup e) rfl
theorem z01 {scope:Scope} {env:Env} (h:∀y∈scope.names,y.2≠.free):relabel scope env=scope:=by
 unfold relabel
 rw [map_eq_self (l:=scope.names) (fun x hx=>by
  obtain ⟨n,k⟩:=x
  have:(k == NameKind.free)=false:=by simpa using h _ hx
  simp [this])]
section
variable {X:Cx}
def z28 (i:Nat) (te:TE):TS:=fun D σ H=>te σ H fun v H1=>D.nx (σ.set i (some v)) H1
end
end L2
namespace L2
open PySem PySem.Spec PyProof.Rows
theorem Inv.turned2 {X:Cx} {pins:List (Addr × Obj)} {σ:St} {H:Hp} {s:Shared} {h':Heap} {t':Nat} {e it:Addr} {xs:List V} (I:Inv X pins σ H s) (k:∀b o,b≠e→b≠it→s.heap.get? b=some o→h'.get? b=some o)
  (there:∀b∈[e,it],∃o,h'.get? b=some o) (fe:FpOk X pins H e) (fi:FpOk X pins H it) (new:zN X.prog X.w (upd H s.heap.objs.size (.tup xs)) h' s.heap.objs.size (.tup xs)):
  Inv X pins σ (upd H s.heap.objs.size (.tup xs)) { s with heap:=h',toks:=t' }:=by
 have hn:=I.fresh
 have nit:∀b u,H b=some u→b≠e∧b≠it:=fun b u q=>⟨(fun z=>by rw [z,fe.1] at q;cases q),(fun z=>by rw [z,fi.1] at q;cases q)⟩
 have hm:∀{b:Addr},b∉[e,it]→b≠e∧b≠it:=fun {b} hb=>⟨fun z=>hb (by simp [z]),fun z=>hb (by simp [z])⟩
 refine I.step (g':=s.gens) (d':=s.drawn) (ch:=[e,it]) (fun b hb=>?_) (fun b o _ _ hc q _=>k b o (hm hc).1 (hm hc).2 q) (fun b o _ _ hc q _=>⟨o.slots,k b o (hm hc).1 (hm hc).2 q⟩) (fun b o _ q n=>?_)
  (fun b o hc q=>⟨o,k b o (hm hc).1 (hm hc).2 q⟩) (fun b xs q=>by rw [zc (z8 q hn)];exact q) (fun b o u q=>by rw [zc (z8 q hn)];exact q) (fun b ps q=>⟨#[],by rw [zc (z8 q hn),q];simp⟩) (fun m hm'=>?_) (fun b u q=>?_) I.bare
 ·rcases kx.mp hb with z | z
  ·subst z;exact ⟨fe.2.2.2.1,fe.2.1,fe.2.2.2.2.1,fe.2.2.2.2.2⟩
  ·have z:b=it:=by simpa using z
   subst z;exact ⟨fi.2.2.2.1,fi.2.1,fi.2.2.2.2.1,fi.2.2.2.2.2⟩
 ·rw [zc (Nat.ne_of_lt (Heap.lt_size q))];exact n
 ·obtain ⟨o,es,ep,ho,r⟩:=hm'
  exact ⟨o,es,ep,k _ o (Ne.symm fe.2.1) (Ne.symm fi.2.1) ho,r⟩
 ·by_cases hb:b=s.heap.objs.size
  ·subst hb;rw [z6] at q;cases q;exact new
  ·rw [zc hb] at q
   refine (I.hok b u q).stay (fun c v hc z=>?_) (fun c z=>by rw [zc (z8 z hn)];exact z) fun c xs z=>by rw [zc (z8 z hn)];exact z
   rcases hc with y | y
   ·subst y;exact k c v (nit c u q).1 (nit c u q).2 z
   ·exact k c v (nit c _ y).1 (nit c _ y).2 z
noncomputable def Ite (K:ko) (a:Addr):It:=
 ⟨fun i H=>∃xs x,SqL K H a xs∧xs[i]?=some x,fun i H x H'=>∃p y,x=.ref p∧H p=none∧H'=upd H p (.tup [.int i,y])∧∀xs,SqL K H a xs→xs[i]?=some y,fun i H=>∃xs,SqL K H a xs∧xs.length≤i⟩
theorem z0y {P:Program} {w:World} {K:ko} {elts:List Expr} {x1} {pos:Pos} (a e it:Addr) (hei:e≠it):Turn P w K (.Tuple elts x1 pos) (Ite K a) [e,it] e (fun i h=>(∃old,IsEnum h e it i old)∧h.IsListIter it a i) where
 mem:=by simp
 obj:=fun i h st b hb=>by
  rcases kx.mp hb with z | z
  ·subst z
   obtain ⟨old,q⟩:=st.1
   exact ⟨_,q,fun v y=>by cases y⟩
  ·have z:b=it:=by simpa using z
   subst z
   obtain ⟨o,q,c,d⟩:=st.2
   exact ⟨o,q,fun v z=>by rw [d] at z;cases z⟩
 keep:=fun i h h' st k=>⟨let ⟨old,q⟩:=st.1;⟨old,k e (by simp) _ q⟩,st.2.at fun o q=>k it (by simp) o q⟩
 item:=by
  intro X hP hw hK hc i pins s σ H E I hf st hg
  subst hP hw hK
  obtain ⟨xs,x,hq,hx⟩:=hg
  obtain ⟨its,rv,p,hz⟩:=I.list hq
  obtain ⟨u,hu,ru⟩:=rv.get hx
  obtain ⟨⟨old,he⟩,hit⟩:=st
  have fe:=hf e (by simp)
  have fi:=hf it (by simp)
  refine wpAny_pyNext_enum_item he hit p.isList (x:=u) (by simpa using hu) hei fun h' ho hit' hT hsz hk=>?_
  refine ⟨_,rfl,?_⟩
  have new:zN X.prog X.w (upd H s.heap.objs.size (.tup [.int i,x])) h' s.heap.objs.size (.tup [.int i,x]):=⟨by show 2≤sizeLine;decide,[.int i s.toks,u],.cons ⟨_,rfl⟩ (.cons ru .nil),_,hT,rfl,_,rfl⟩
  obtain ⟨oi,ei,_⟩:=id hit'
  have I1:Inv X pins σ (upd H s.heap.objs.size (.tup [.int i,x])) { s with heap:=h',toks:=s.toks+1 }:=I.turned2 hk (fun b hb=>by
   rcases kx.mp hb with z | z
   ·subst z;exact ⟨_,ho⟩
   ·have z:b=it:=by simpa using z
    subst z;exact ⟨_,ei⟩) fe fi new
  have ne1:e≠s.heap.objs.size:=Nat.ne_of_lt (Heap.lt_size he)
  have ne2:it≠s.heap.objs.size:=by obtain ⟨o2,e2,_⟩:=hit;exact Nat.ne_of_lt (Heap.lt_size e2)
  refine wpAny_letOwnedTupleGo_enum (s:={ s with heap:=h',toks:=s.toks+1 }) ho fun h2 he2 hs2=>?_
  have he2':IsEnum h2 e it (((i+1:Nat)):Int) u:=by simpa using he2
  refine ⟨.ref s.heap.objs.size,_,I1.turned (t':=s.toks+1) (it:=e) (fun b o hb q=>(hs2.2 b hb).trans q) (by rw [zc ne1];exact fe.1) fe.2.1 fe.2.2.2.1 fe.2.2.2.2.1 fe.2.2.2.2.2,rfl,⟨_,x,rfl,I.fresh,rfl,fun ys hy=>by rw [I.list_inj hy hq];exact hx⟩,⟨⟨u,he2'⟩,hit'.at fun o q=>(hs2.2 it hei.symm).trans q⟩,fun b hb=>?_⟩
  rcases kx.mp hb with z | z
  ·subst z;rw [zc ne1];exact fe.1
  ·have z:b=it:=by simpa using z
   subst z;rw [zc ne2];exact fi.1
 done:=by
  intro X hP hw hK hc i pins s σ H E I hf st hg
  subst hP hw hK
  obtain ⟨xs,hq,hx⟩:=hg
  obtain ⟨its,rv,p,hz⟩:=I.list hq
  obtain ⟨⟨old,he⟩,hit⟩:=st
  obtain ⟨f0,f1,f2,f3,f4,f5⟩:=hf it (by simp)
  have hl:=rv.length
  exact wpAny_pyNext_enum_end (I.ok.hd hc) he hit p.isList (by simp;lia) fun h' eb=>⟨rfl,I.turned (t':=s.toks) (fun b o hb e=>eb b o hb e) f0 f1 f3 f4 f5⟩
 self:=fun _ _ _ _ _ st h=>let ⟨old,he⟩:=st.1;wpAny_pyIter_enum he h
section
variable {X:Cx}
def z5G (K:ko) (ta:TA):TI:=fun σ H R=>ta σ H fun vs H1=>∃a,vs=[.ref a]∧(∃xs,SqL K H1 a xs)∧R (Ite K a) H1
theorem z13 {a:Expr} {ta:TA} {p pos:Pos} {elts:List Expr} {x1} {tp:Pos} (hg:Gl X "enumerate") (hm:X.mg "enumerate"=none) (ha:PA X [a] ta) (hs:autoParam (starEach [a] X.env=[(false,eval a X.env)]) aR._auto_1):PI X (.Tuple elts x1 tp) (.Call (.Name "enumerate" p) [a] [] pos) (z5G X.K ta):=by
 intro pins s σ H R I h
 refine Call_ (jP I hg hm boot_enumerate (PyProof.Rows.callWith_type1 (thn (ha pos pins s σ H _ I h) fun us s1 ⟨vs,H1,I1,r1,q1⟩=>?_) hs rfl))
 obtain ⟨l,e,⟨xs,hq⟩,q⟩:=q1
 subst e
 cases r1 with
 | cons r rr=>
  cases rr
  cases r
  obtain ⟨its,rv,p,hz⟩:=I1.list hq
  refine call_enumerate_list p.isList fun h' he hit hsz hk=>?_
  refine wpAny_pyIter_enum (s:={ s1 with heap:=h' }) he ?_
  have I2:Inv X pins σ H1 { s1 with heap:=h' }:=I1.kept (t':=s1.toks) hk
  have n0:H1 s1.heap.objs.size=none:=I1.fresh
  have n1:H1 (s1.heap.objs.size+1)=none:=I1.hok.fresh (Nat.le_succ _)
  refine ⟨s1.heap.objs.size+1,[s1.heap.objs.size+1,s1.heap.objs.size],_,_,H1,rfl,I2,z0y l _ _ (Nat.succ_ne_self _),⟨⟨_,he⟩,hit⟩,fun b hb=>?_,q⟩
  rcases kx.mp hb with z | z
  ·subst z;exact I1.fpOk (Nat.le_succ _) n1
  ·have z:b=s1.heap.objs.size:=by simpa using z
   subst z;exact I1.fpOk (kc _) n0
end
theorem JM {K:ko} {a:Addr} {xs:List V} {g:TG} {tb:TS} {D:Ends} {σ:St} {H:Hp} (Pv:Nat→St→Hp→Prop) (h0:Pv 0 σ H) (hl:∀i σ H,i≤xs.length→Pv i σ H→SqL K H a xs)
  (hs:∀(i:Nat) x σ H p,xs[i]?=some x→Pv i σ H→H p=none→g (.ref p) σ (upd H p (.tup [.int i,x])) fun σ2 H2=>tb { D with nx:=Pv (i+1),ct:=Pv (i+1),bk:=D.nx } σ2 H2) (hd:∀σ H,Pv xs.length σ H→D.nx σ H):
  ∃W:Nat→Nat→St→Hp→Prop,(∃m,W 0 m σ H)∧∀i m σ H,W i m σ H→
   ((Ite K a).stop i H∧D.nx σ H)∨((Ite K a).go i H∧∃N:St→Hp→Prop,(∀σ' H',N σ' H'→∃m',m' < m∧W (i+1) m' σ' H')∧∀x H',(Ite K a).yld i H x H'→g x σ H' fun σ2 H2=>tb { D with nx:=N,ct:=N,bk:=D.nx } σ2 H2):=by
 refine ⟨fun i m σ H=>m=xs.length - i∧i≤xs.length∧Pv i σ H,⟨xs.length,by simp,Nat.zero_le _,h0⟩,?_⟩
 rintro i m σ H ⟨rfl,hi,p⟩
 have q:=hl i σ H hi p
 by_cases hlt:i < xs.length
 ·refine .inr ⟨⟨xs,xs[i],q,by simp [hlt]⟩,Pv (i+1),fun σ' H' p'=>⟨xs.length - (i+1),by lia,rfl,hlt,p'⟩,fun x H' y=>?_⟩
  obtain ⟨p',y',rfl,hn,rfl,y⟩:=y
  exact hs i y' σ _ p' (y xs q) p hn
 ·have e:i=xs.length:=by lia
  subst e
  exact .inl ⟨⟨xs,q,kc _⟩,hd σ H p⟩
end L2
namespace L2
open PySem PySem.Spec PyProof.Rows
section
variable {X:Cx}
def rS0 (f:Str→V):V→List V→Hp→VK→Prop:=fun x vs H Q=>∃z,x=.str z∧vs=[]∧Q (f z) H
theorem z05:MtM X "str.isascii" (rS0 fun z=>.bl (Txt.isascii z)):=by
 intro pins s σ H x vs v us Q I rx rv h
 obtain ⟨z,rfl,rfl,q⟩:=h
 obtain ⟨t,rfl⟩:=rx
 cases rv
 exact SC.isascii ⟨.bl _,H,I,rfl,q⟩
theorem z06:MtM X "str.isalpha" (rS0 fun z=>.bl (Txt.isalpha z)):=by
 intro pins s σ H x vs v us Q I rx rv h
 obtain ⟨z,rfl,rfl,q⟩:=h
 obtain ⟨t,rfl⟩:=rx
 cases rv
 exact SC.isalpha ⟨.bl _,H,I,rfl,q⟩
theorem z04:MtM X "str.islower" (rS0 fun z=>.bl (Txt.islower z)):=by
 intro pins s σ H x vs v us Q I rx rv h
 obtain ⟨z,rfl,rfl,q⟩:=h
 obtain ⟨t,rfl⟩:=rx
 cases rv
 exact SC.islower ⟨.bl _,H,I,rfl,q⟩
theorem z2k {v:Expr} {pos:Pos} {t:TE} (h:PE X v t):PE X (.JoinedStr [v] pos) t:=fun pins s σ H Q I hq=>wpAny_JoinedStr_one (h pins s σ H Q I hq)
theorem zR:Zx X (.builtin "isinstance") (fun xs H Q=>∃x T t b,xs=[x,.ty T]∧TyOf X.K H x t∧PySem.W.kitOne X.K t (.type T)=some b∧Q (.bl b) H):=by
 intro pins s σ H xs us Q I r h
 obtain ⟨x,T,t,b,rfl,ty,e,q⟩:=h
 obtain ⟨u,u2,rfl,ru,r2⟩:=z3E r
 cases r2
 exact z1r I ru ty e fun tk=>⟨.bl b,H,I.tok tk,rfl,q⟩
theorem z4Q:OpR X (compareOp .Is) (fun x y H Q=>∃b,y=.bl b∧Q (.bl (decide (x=.bl b))) H):=by
 intro pins s σ H x y v u Q I rx ry h
 obtain ⟨b,rfl,q⟩:=h
 cases ry
 cases x with
 | non=>cases rx;exact PySem.wpAny_is_plain rfl (zv I q (by cases b <;> rfl))
 | bl c=>cases rx;exact PySem.wpAny_is_plain rfl (zv I q (by cases b <;> cases c <;> rfl))
 | int i=>obtain ⟨t,rfl⟩:=rx;exact PySem.wpAny_is_plain rfl (zv I q rfl)
 | str z=>obtain ⟨t,rfl⟩:=rx;exact PySem.wpAny_is_plain rfl (zv I q rfl)
 | byt z=>obtain ⟨t,rfl⟩:=rx;exact PySem.wpAny_is_plain rfl (zv I q rfl)
 | flt z=>obtain ⟨t,rfl⟩:=rx;exact PySem.wpAny_is_plain rfl (zv I q rfl)
 | ref a=>cases rx;exact PySem.wpAny_is_plain rfl (zv I q rfl)
 | ty n=>cases rx;exact PySem.wpAny_is_plain rfl (zv I q rfl)
end
end L2
namespace L2
open PySem PySem.Spec PyProof.Rows
def KTab (P:Params) (K:ko) (d:Addr) (tab:List (Str × V)):Prop:=
 ∃es n,K.lookup d=some ⟨.type "dict",none,.dict es n,#[]⟩∧PySem.W.KeysLit P es.toList∧(d == sysModules)=false∧Paired (fun (p:Str × V) (e:DictEntry)=>(∃t,e.key=.str p.1 t)∧RelV p.2 e.val) tab es.toList
theorem Qz {x:Str}:∀{tab:List (Str × V)} {es:List DictEntry},Paired (fun (p:Str × V) (e:DictEntry)=>(∃t,e.key=.str p.1 t)∧RelV p.2 e.val) tab es→
  RelO (tab.lookup x) ((es.find? fun e=>Value.isStrOf x e.key).map (·.val))
 | _,_,.nil=>trivial
 | (k,v) :: tab,e :: es,.cons ⟨⟨t,hk⟩,hv⟩ r=>by
  have ih:=Qz (x:=x) r
  by_cases hx:x=k
  ·subst hx
   have h1:((x,v) :: tab).lookup x=some v:=by simp [List.lookup]
   have h2:(e :: es).find? (fun e=>Value.isStrOf x e.key)=some e:=by
    rw [List.find?_cons,hk]
    simp [Value.isStrOf]
   rw [h1,h2]
   exact hv
  ·have h1:((k,v) :: tab).lookup x=tab.lookup x:=by
    rw [List.lookup_cons]
    have:(x == k)=false:=by simpa using hx
    rw [this]
   have h2:(e :: es).find? (fun e=>Value.isStrOf x e.key)=es.find? (fun e=>Value.isStrOf x e.key):=by
    rw [List.find?_cons,hk]
    have:Value.isStrOf x (Value.str k t)=false:=by simpa [Value.isStrOf] using fun z=>hx z.symm
    rw [this]
   rw [h1,h2]
   exact ih
section
variable {X:Cx}
theorem Q4 {P:Params} {K:ko} {prog:Program} {w:World} {h:Heap} {d:Addr} {tab:List (Str × V)} (hP:P=w.params) (t:KTab P K d tab) (kin:K.In h):
  ∃f,h.MapOf (strKind prog w) d f∧(d == sysModules)=false∧∀x,RelO (tab.lookup x) (f x):=by
 subst hP
 obtain ⟨es,n,hl,hk,hd,hp⟩:=t
 refine ⟨_,PySem.W.mapOf_K (prog:=prog) kin hl hk,hd,fun x=>?_⟩
 have q:=Qz (x:=x) hp
 show RelO _ (findBy Value.isStrOf es x)
 unfold findBy
 rw [←Array.find?_toList]
 exact q
def z5n (tab:List (Str × V)) (ty:TE):TE:=fun σ H Q=>ty σ H fun y H1=>∃x v,y=.str x∧tab.lookup x=some v∧Q v H1
theorem z15 {nm:Str} {i:Expr} {p pos:Pos} {d:Addr} {tab:List (Str × V)} {ty:TE} (T:KTab X.w.params X.K d tab) (hg:Gl X nm) (hm:X.mg nm=some (.ref d)) (hi:PE X i ty) (hs:NoSl i) (hd:autoParam ((nm == ("__debug__":Str))=false) aR._auto_2):
  PE X (.Subscript (.Name nm p) i pos) (z5n tab ty):=by
 intro pins s σ H Q I h
 refine z0D PySem.F.slot_dict_getitem.lookup hs (Zo I hg hm (thn (hi pins s σ H _ I h) fun iv s2 ⟨y,H2,I2,ry,x,v,ex,l,q⟩=>?_) hd)
 subst ex
 obtain ⟨t,rfl⟩:=ry
 obtain ⟨f,mo,_,hf⟩:=Q4 (prog:=X.prog) (w:=X.w) rfl T I2.kIn
 have hf:=hf x
 rw [l] at hf
 obtain ⟨w',e',rw'⟩:=RelO.some_of hf
 exact ⟨mo.typeIs,wpAny_getItem_of (strKind_is X.prog X.w x t) mo e' ⟨v,H2,I2.tok _,rw',q⟩⟩
def tKIn (tab:List (Str × V)) (ty:TE):TE:=fun σ H Q=>ty σ H fun y H1=>∃x,y=.str x∧Q (.bl (tab.lookup x).isSome) H1
theorem z4M {nm:Str} {i:Expr} {p:Pos} {d:Addr} {tab:List (Str × V)} {ty:TE} (T:KTab X.w.params X.K d tab) (hg:Gl X nm) (hm:X.mg nm=some (.ref d)) (hi:PE X i ty) (hd:autoParam ((nm == ("__debug__":Str))=false) aR._auto_2):
  PC X .In i (.Name nm p) (tKIn tab ty):=by
 intro pins s σ H Q I h
 refine thn (hi pins s σ H _ I h) fun iv s1 ⟨y,H1,I1,ry,x,ex,q⟩=>Zo I1 hg hm ?_ hd
 subst ex
 obtain ⟨t,rfl⟩:=ry
 obtain ⟨f,mo,lo,hf⟩:=Q4 (prog:=X.prog) (w:=X.w) rfl T I1.kIn
 refine wpAny_in_of (strKind_is X.prog X.w x t) lo mo ⟨.bl _,H1,I1.tok _,rfl,?_⟩
 rw [←RelO.isSome_eq (hf x)]
 exact q
def z4v (X:Cx) (i:Nat) (t:TA):TE:=fun σ H Q=>∃(f:Addr) (fd:FuncData) (ps:List Str) (sp:Sp) (k:Nat),σ[i]?=some (some (.ref f))∧PySem.W.keepIn X.K (.ref f)=true∧FnOk X.prog X.w X.K X.mg X.base CX0 k f fd ps sp∧Room k X.A∧ZB X.K fd ps []∧
 t σ H fun vs H1=>sp vs H1 Q E0
theorem z2o {i:Nat} {x:Str} {p pos:Pos} {e:Expr} {es:List Expr} {t:TA} (hv:PE X (.Name x p) (tVar i)) (ha:PA X (e :: es) t)
  (he:autoParam (starEach (e :: es) X.env=(false,eval e X.env) :: starEach es X.env) aR._auto_1) (hpl:autoParam ((backTo pos (starEach es X.env)).any (·.1)=false) aR._auto_1):
  PE X (.Call (.Name x p) (e :: es) [] pos) (z4v X i t):=by
 intro pins s σ H Q I h
 obtain ⟨f,fd,ps,sp,k,hσ,hk,F,hr,hb,h⟩:=h
 refine wpAny_Call_Name_kw (thn (hv pins s σ H (fun v H1=>v=.ref f∧H1=H) I ⟨.ref f,hσ,rfl,rfl⟩) fun u s1 zz=>?_)
 obtain ⟨v,H1,I1,r1,e1,e2⟩:=zz
 subst e1
 subst e2
 cases r1
 refine PySem.W.callWith_K (h₀:=X.base) I1.ok.mod.kin hk (thn (ha pos pins s1 σ _ _ I1 h) fun us s2 ⟨vs,H2,I2,r,q⟩=>⟨I2.kIn,?_⟩) he hpl
 exact z3i F hr hb .nil z3Q I2 r (by rw [kN];exact q)
def rEqE (K:ko):R2:=fun x y H Q=>∃p q xs,x=.ref p∧y=.ref q∧SqL K H p xs∧SqL K H q []∧Q (.bl (decide (xs=[]))) H
theorem z3n (hu:X.A.units < cLine):OpR X (compareOp .Eq) (rEqE X.K):=by
 intro pins s σ H x y v u Q I rx ry h
 obtain ⟨p,q,xs,rfl,rfl,h1,h2,hq⟩:=h
 cases rx
 cases ry
 obtain ⟨its,r,pl,_⟩:=I.list h1
 obtain ⟨its2,r2,pl2,_⟩:=I.list h2
 cases r2
 cases r with
 | nil=>
  refine SeqAt.eq_listAt (e:=fun _=>true) pl.isList pl2.isList rfl hu (fun j h1 _=>absurd h1 (by simp)) ⟨.bl _,H,I,rfl,?_⟩
  simpa using hq
 | cons a b=>
  refine SeqAt.eq_list_lengthsAt pl.isList pl2.isList (by simp) hu ⟨.bl _,H,I,rfl,?_⟩
  simpa using hq
theorem Qg:∀{as:List Addr} {us:List Value},Vals (as.map V.ref) us→us=as.map Value.ref:=by
 intro as
 induction as with
 | nil=>intro us r;cases r;rfl
 | cons a r ih=>
  intro us h
  cases h with
  | cons x y=>cases x;rw [ih y];rfl
def z3G (td ty tx:TE):TE:=fun σ H Q=>td σ H fun x H1=>∃a,x=.ref a∧IsD H1 a∧ty σ H1 fun y H2=>tx σ H2 fun z H3=>∃kvs k,H3 a=some (.dK kvs)∧y=kV k∧kvs.length < sizeLine∧
 match valV kvs k with
 | some v=>Q v H3
 | none=>Q z (upd H3 a (.dK (putK kvs k z)))
theorem z14 {o e f:Expr} {apos cpos:Pos} {td ty tx:TE} (ho:PE X o td) (he:PE X e ty) (hf:PE X f tx) (m:M2 X o "setdefault" apos e f cpos):PE X (.Call (.Attribute o "setdefault" apos) [e,f] [] cpos) (z3G td ty tx):=by
 intro pins s σ H Q I h
 refine wpAny_Call_method m.base m.few m.line PySem.F.plainAttrs_dict PySem.F.slot_dict_setdefault PySem.F.type_dict_setdefault (thn (ho pins s σ H _ I h) fun u s1 zz=>?_)
 obtain ⟨x,H1,I1,rx,a,ex,d,q1⟩:=zz
 subst ex
 obtain rfl:u=Value.ref a:=rx
 obtain ⟨t1,t2,_⟩:=z3p I1 d
 refine ⟨t1,t2,?_⟩
 rw [m.trees]
 refine Calls.callWith_builtin rfl (Calls.evalArgs_plain (Calls.spliced_cons (thn (he pins s1 σ H1 _ I1 q1) fun iv s2 ⟨y,H2,I2,ry,q2⟩=>
  Calls.spliced_cons (thn (hf pins s2 σ H2 _ I2 q2) fun fv s3 ⟨z,H3,I3,rz,kvs,k,ea,ek,hz,q3⟩=>Calls.spliced_nil ?_))))
 subst ek
 obtain ⟨hl,lo,vs,rel,dd⟩:=z2Q I3.hok ea
 have lenr:=rel.length
 have hargs:argsOk "dict.setdefault" ⟨[.ref a,iv,fv],[]⟩:=PySem.F.args_dict_setdefault_3 _ _ _
 show wpAny (model X.prog X.w) X.A (call (.builtin "dict.setdefault") [.ref a,iv,fv]) _ _ _
 refine call_meetsIn PySem.F.slot_dict_setdefault dd.typeIs PySem.F.entry_dict_setdefault hargs (kt_meets_setdefault (zD X.prog X.w) a (Jc ry) lo fv) ⟨vs,dd,by lia,fun v hv=>?_,fun hn h' dd' sb=>?_⟩
 ·cases l:valV kvs k with
  | none=>
   have:=rel.val k
   rw [l,hv] at this
   exact this.elim
  | some w'=>
   have r:=rel.val k
   rw [l,hv] at r
   rw [l] at q3
   exact ⟨w',H3,I3.tok _,r,q3⟩
 ·cases l:valV kvs k with
  | some w'=>
   have r:=rel.val k
   rw [l,hn] at r
   exact r.elim
  | none=>
   rw [l] at q3
   refine ⟨z,_,Qc I3 (ob:=.dK (putK kvs k z)) (by rw [ea];exact trivial) sb ?_ (z1L (km (qi kvs k z) hz) lo (rel.put k rz) dd'),rz,q3⟩
   obtain ⟨ob,_,_,e,_⟩:=dd'
   exact ⟨ob,e⟩
end
end L2
namespace L2
open PySem PySem.Spec PyProof.Rows
theorem QJ {prog:Program} {w:World} {A:Around} {R:Result→Shared→Prop} {s:Shared} {elt target iter:Expr} {ifs:List Expr} {scope:Scope} {pos:Pos} {it acc:Value} {env:Env} (I:Nat→Shared→Prop)
  (turn:∀n s,I n s→wpAny (model prog w) A (pyNext it) (fun r s₁=>match r with
   | none=>R (.ok .next) s₁
   | some v=>wpAny (model prog w) A (letOwnedTupleGo target it v) (fun _ s₁'=>wpAny (model prog w) A (assign target env v) (fun _ s₂=>
     wpAny (model prog w) A (forIn ifs true fun c r=>if r=true then do let ok ←isTrue c env (eval c env);pure (ForInStep.yield ok) else pure (ForInStep.yield r)) (fun ok s₃=>
     if ok=true then wpAny (model prog w) A (eval elt env) (fun x s₃'=>
      wpAny (model prog w) A (call (.builtin "list.append") [acc,x]) (fun _ s₄=>∃m,m < n∧I m s₄) (fun _ _=>False) s₃') (fun _ _=>False) s₃
     else ∃m,m < n∧I m s₃)
     (fun _ _=>False) s₂) (fun _ _=>False) s₁') (fun _ _=>False) s₁) (fun _ _=>False) s)
  (n:Nat) (h:I n s):codeAny (model prog w) A (.compLoop (.ListComp elt [⟨target,iter,ifs,0⟩] scope pos) 0 it acc env) R s:=by
 refine codeAny_loop rfl I (fun n s hI=>?_) n h
 show wpAny _ _ ((compTurn (.ListComp elt [⟨target,iter,ifs,0⟩] scope pos) 0 it acc env).onRaise (fun x=>do noteFrame x env;theTreesLotGoes x)) _ _ s
 refine wpAny_noted ?_
 rw [compTurn_list]
 refine wpAny_bind (wpAny_standAt (wpAny_bind (wpAny_mono (turn n s hI) (fun r s₁ h₁=>?_) fun _ _ h'=>h'.elim)))
 cases r with
 | none=>exact wpAny_pure h₁
 | some v=>
  refine wpAny_bind (wpAny_mono h₁ (fun _ s₁' h₁'=>?_) fun _ _ h'=>h'.elim)
  refine wpAny_bind (wpAny_mono h₁' (fun _ s₂ h₂=>wpAny_bind (wpAny_mono h₂ (fun ok s₃ h₃=>?_) fun _ _ h'=>h'.elim)) fun _ _ h'=>h'.elim)
  cases ok with
  | true=>
   rw [kr rfl] at h₃ ⊢
   exact wpAny_bind (wpAny_bind (wpAny_mono h₃ (fun x s₃' h₃'=>wpAny_bind (wpAny_mono h₃' (fun _ s₄ h₄=>wpAny_pure (wpAny_pure ⟨rfl,h₄⟩)) fun _ _ h'=>h'.elim)) fun _ _ h'=>h'.elim))
  | false=>
   rw [kq ka] at h₃ ⊢
   exact wpAny_bind (wpAny_pure (wpAny_pure ⟨rfl,h₃⟩))
noncomputable abbrev zL (X:Cx) (N:List Str) (scope:Scope) (cl:List (Str × Addr)) (s:Shared) (H:Hp) (fp:List Addr) (C:Addr):Cx where
 prog:=X.prog
 w:=X.w
 K:=X.K
 mg:=X.mg
 base:=X.base
 A:=X.A
 N:=N
 s₀:=s
 H₀:=H
 env:=compEnvC scope cl C X.env
 outer:=X.stack
 stack:=X.stack
 ex:=fp
 fn:=fun _=>false
 calm:=true
 pn:=[]
 xe:=fun _ _=>False
structure qh (X:Cx) (N:List Str) (nt:Nat) (ix:List Nat) (scope:Scope) (cl:List (Str × Addr)):Prop where
 clos:closureFor scope X.env=pure cl
 nocell:∀y∈scope.names,y.2≠.cell
 kind:scope.kind=.function
 names:∀y∈scope.names,y.2=.local→scope.names.lookup y.1=some .local
 sub:∀x c,cl.lookup x=some c→X.env.cells.lookup x=some c
 has:∀x,((relabel scope X.env).names.lookup x=some .cell∨(relabel scope X.env).names.lookup x=some .free)→∃c,cl.lookup x=some c
 len:N.length=nt+ix.length
 free:∀j x,N[nt+j]?=some x→∃i,ix[j]?=some i∧X.N[i]?=some x∧X.env.kindOf x=some .cell∧(relabel scope X.env).names.lookup x=some .cell∧∀c,X.env.cells.lookup x=some c→cl.lookup x=some c
noncomputable def jS (nt:Nat) (ix:List Nat) (σ:St):St:=List.replicate nt none++ix.map fun i=>(σ[i]?).join
def PTs (X:Cx) (ifs:List Expr) (tc:TT):Prop:=
 ∀(pins:List (Addr × Obj)) (s:Shared) (σ:St) (H:Hp) (Q:Bool→Hp→Prop),Inv X pins σ H s→tc σ H Q→
  wpAny (model X.prog X.w) X.A (forIn ifs true fun c r=>if r=true then do let ok ←isTrue c X.env (eval c X.env);pure (ForInStep.yield ok) else pure (ForInStep.yield r)) (TP X pins σ Q) X.xe s
def tAll:TT:=fun _ H Q=>Q true H
theorem qX {X:Cx}:PTs X [] tAll:=fun pins s σ H Q I h=>wpAny_tests_nil ⟨H,I,h⟩
theorem ZU {X:Cx} {c:Expr} {tc:TT} (h:PT X c tc):PTs X [c] tc:=fun pins s σ H Q I hq=>wpAny_tests_one (h pins s σ H Q I hq)
def Jr (nt:Nat) (ix:List Nat) (wi:TI) (g:TG) (tc:TT) (te:TE):TE:=fun σ H Q=>wi σ H fun J H1=>∀l,H1 l=none→∃W:Nat→Nat→List V→St→Hp→Prop,(∃m,W 0 m [] (jS nt ix σ) (upd H1 l (.lst [])))∧∀i m ys σ' H2,W i m ys σ' H2→
 (J.stop i H2∧Q (.ref l) H2)∨(J.go i H2∧∀x H3,J.yld i H2 x H3→g x σ' H3 fun σ2 H4=>tc σ2 H4 fun b H5=>if b=true then te σ2 H5 fun v H6=>H6 l=some (.lst ys)∧ys.length < sizeLine∧∃m',m' < m∧W (i+1) m' (ys++[v]) σ2 (upd H6 l (.lst (ys++[v])))
  else ∃m',m' < m∧W (i+1) m' ys σ2 H5)
section
variable {X:Cx}
theorem jj {elt iter tg:Expr} {ifs:List Expr} {N:List Str} {nt:Nat} {ix:List Nat} {scope:Scope} {cl:List (Str × Addr)} {pos:Pos} {pins:List (Addr × Obj)} {σ:St} {H:Hp} {s:Shared} {it:Addr} {fp:List Addr} {tn:Nat→Heap→Prop} {J:It} {g:TG} {tc:TT} {te:TE} {Q:VK} {E:Value→Shared→Prop}
  {RR:Value→Addr→Result→Shared→Prop}
  (hc:X.calm=true) (sc:qh X N nt ix scope cl) (I:Inv X pins σ H s) (T:Turn X.prog X.w X.K tg J fp it tn) (st:tn 0 s.heap) (hf:∀b∈fp,FpOk X pins H b)
  (hg:∀(s:Shared) (H:Hp) (fp:List Addr) (C:Addr),PG (zL X N scope cl s H fp C) tg g)
  (ht:∀(s:Shared) (H:Hp) (fp:List Addr) (C:Addr),PTs (zL X N scope cl s H fp C) ifs tc)
  (he:∀(s:Shared) (H:Hp) (fp:List Addr) (C:Addr),PE (zL X N scope cl s H fp C) elt te)
  (h:∀l,H l=none→∃W:Nat→Nat→List V→St→Hp→Prop,(∃m,W 0 m [] (jS nt ix σ) (upd H l (.lst [])))∧∀i m ys σ' H2,W i m ys σ' H2→
   (J.stop i H2∧Q (.ref l) H2)∨(J.go i H2∧∀x H3,J.yld i H2 x H3→g x σ' H3 fun σ2 H4=>tc σ2 H4 fun b H5=>if b=true then te σ2 H5 fun v H6=>H6 l=some (.lst ys)∧ys.length < sizeLine∧∃m',m' < m∧W (i+1) m' (ys++[v]) σ2 (upd H6 l (.lst (ys++[v])))
    else ∃m',m' < m∧W (i+1) m' ys σ2 H5))
  (hRR:∀D C s' H' m,Inv X pins σ H' s'→s'.heap.Ns C m→C≠X.env.locals→H' C=none→X.s₀.heap.objs.size≤C→(∀x c,X.env.cells.lookup x=some c→c≠C)→(∀p∈X.pn++pins,p.1≠C)→Q (.ref D) H'→RR (.ref D) C (.ok .next) s'):
  wpAny (model X.prog X.w) X.A (newList []) (fun acc s₃=>wpAny (model X.prog X.w) X.A (newFunctionEnv scope X.env.globals cl [] X.env.qual none .none (some X.env)) (fun cenv s₄=>
   codeAny (model X.prog X.w) X.A (.compStart (.ListComp elt [⟨tg,iter,ifs,0⟩] scope pos) 0 (.ref it) acc { cenv with scope:=relabel scope X.env }) (RR acc cenv.locals) s₄) E s₃) E s:=by
 refine wpAny_newObj_type ?_
 have I3:Inv X pins σ (upd H s.heap.objs.size (.lst [])) { s with heap:=s.heap.push { cls:=.type "list",data:=.seq ([]:List Value).toArray } }:=I.lnew (ys:=[]) (its:=[]) (t':=s.toks) .nil (Nat.zero_le _)
 have st3:tn 0 (s.heap.push { cls:=.type "list",data:=.seq ([]:List Value).toArray }):=T.keep _ _ _ st fun b hb o e=>Heap.get?_push_of_some _ e
 have fpl:∀b∈fp,b < s.heap.objs.size:=fun b hb=>by
  obtain ⟨o,e,_⟩:=T.obj _ _ st b hb
  exact Heap.lt_size e
 obtain ⟨W,⟨m0,w0⟩,turn⟩:=h s.heap.objs.size I.fresh
 have hf3:∀b∈fp,FpOk X pins (upd H s.heap.objs.size (.lst [])) b:=fun b hb=>⟨by rw [zc (Nat.ne_of_lt (fpl b hb))];exact (hf b hb).1,(hf b hb).2⟩
 generalize hD:s.heap.objs.size=D at *
 generalize hH3:upd H D (HO.lst [])=H3 at *
 generalize hs3:({ s with heap:=s.heap.push { cls:=.type "list",data:=.seq ([]:List Value).toArray } }:Shared)=s3 at *
 have hsz3:s3.heap.objs.size=D+1:=by rw [←hs3,←hD];exact Heap.size_push ..
 have st3':tn 0 s3.heap:=by rw [←hs3];exact st3
 refine wpAny_newFunctionEnv (s:=s3) sc.nocell (by intro y hy;simp at hy) (fun h1 hns hsb=>?_) sc.kind
 generalize hC:s3.heap.objs.size=C at *
 have kept:∀b o,s3.heap.get? b=some o→h1.get? b=some o:=fun b o e=>hsb.extBut b o (by rw [←hC];exact Nat.ne_of_lt (Heap.lt_size e)) (Heap.get?_push_of_some _ e)
 show codeAny (model X.prog X.w) X.A (.compStart (.ListComp elt [⟨tg,iter,ifs,0⟩] scope pos) 0 (.ref it) (.ref D) (compEnvC scope cl C X.env)) (RR (.ref D) C) { s3 with heap:=h1,toks:=s3.toks+0 }
 have fpC:∀b∈fp,b≠C:=fun b hb=>Nat.ne_of_lt (kF (fpl b hb) (by rw [hsz3];exact Nat.le_succ D))
 have cellC:∀x c,cl.lookup x=some c→c≠C:=fun x c e z=>by
  obtain ⟨v,q⟩:=I3.cell x c (sc.sub x c e)
  have:=q.lt
  rw [hC,z] at this
  exact Nat.lt_irrefl _ this
 have ok:(zL X N scope cl s3 H3 fp C).Ok:={
  mod:=I.ok.mod,kind:=(show (relabel scope X.env).kind=.function from sc.kind),glob:=I.ok.glob,blt:=I.ok.blt,above:=kP hC
  inj:=fun y z c e e'=>I.ok.inj y z c (sc.sub y c e) (sc.sub z c e')
  has:=fun y hy=>sc.has y hy
  cab:=fun y c e _=>nomatch e
  hd:=fun _=>I.ok.hd hc
  frames:=I.ok.frames
  stk:=.inl rfl
  exf:=fun b hb=>⟨fpC b hb,fun y c e=>(hf3 b hb).2.2.2.2.1 y c (sc.sub y c e)⟩
  bs:=I3.bs
  bsz:=km I.ok.bsz I3.sz
  noex:=fun b o e hb=>by
   obtain ⟨_,_,_,h4,_⟩:=hf3 b hb
   rcases h4 with z | z
   ·exact I.ok.noex b o e z
   ·exact absurd (kF (Heap.lt_size (I.ok.bs b o e).1) z) (Nat.lt_irrefl _)
  exfs:=fun b hb z=>by
   obtain ⟨_,h1,h2,_⟩:=hf3 b hb
   rcases kx.mp (I3.stkSub b z) with q | q
   ·exact h1 q
   ·exact h2 q
  funs:=I3.stack
  frf:=I3.stkFree }
 have cellK:∀c v,s3.heap.IsCell c v→h1.IsCell c v:=fun c v ⟨o,ho,hd⟩=>⟨o,kept c o ho,hd⟩
 have I4:Inv (zL X N scope cl s3 H3 fp C) [] (jS nt ix σ) H3 { s3 with heap:=h1,toks:=s3.toks+0 }:={
  ok:=ok,os:=rfl,bare:=I3.bare,base:=Un.kept kept
  loc:=⟨_,hns,fun i y v e1 e2 _=>by
   have e2:(jS nt ix σ)[i]?=some (some v):=e2
   unfold jS at e2
   by_cases hi:i < nt
   ·rw [kZ (by simpa using hi),List.getElem?_replicate,kr hi] at e2
    cases e2
   ·obtain ⟨j,rfl⟩:∃j,i=nt+j:=⟨i - nt,by lia⟩
    rw [ya (by simp),List.length_replicate,Nat.add_sub_cancel_left,List.getElem?_map] at e2
    obtain ⟨k,hk,hXN,hkind,hrel,hcl⟩:=sc.free j y e1
    rw [hk] at e2
    have e3:σ[k]?=some (some v):=by
     cases q:σ[k]? with
     | none=>rw [Option.map_some,q] at e2;cases e2
     | some o=>rw [Option.map_some,q] at e2;simpa using e2
    obtain ⟨m,_,hl⟩:=I3.loc
    obtain ⟨u,ru,lk⟩:=hl k y v hXN e3 (.inr (.inl hkind))
    refine ⟨u,ru,.inr ⟨.inl hrel,?_⟩⟩
    rcases lk with ⟨z,_⟩ | ⟨_,c,hcc,hcell⟩
    ·rw [hkind] at z;cases z
    ·exact ⟨c,hcl c hcc,cellK _ _ hcell⟩⟩
  cell:=fun y c e=>let ⟨v,q⟩:=I3.cell y c (sc.sub y c e);⟨v,cellK _ _ q⟩
  free:=I3.hok.fresh (kP hC)
  freeC:=fun y c e=>I3.freeC y c (sc.sub y c e)
  pin:=fun p hp=>absurd (show p∈([]:List (Addr × Obj)) from hp) (by simp)
  hok:=I3.hok.kept kept
  len:=by show (jS nt ix σ).length=N.length;rw [sc.len];unfold jS;simp }
 have st4:tn 0 h1:=T.keep _ _ _ st3' fun b hb o e=>kept b o e
 have stat:∀{H':Hp},(∀b∈fp,H' b=none)→∀b∈fp,FpOk (zL X N scope cl s3 H3 fp C) [] H' b:=fun hn b hb=>⟨hn b hb,fpC b hb,ok.exfs b hb,.inl hb,(fun y c e=>(hf3 b hb).2.2.2.2.1 y c (sc.sub y c e)),fun p hp=>absurd (show p∈([]:List (Addr × Obj)) from hp) (by simp)⟩
 have loop:codeAny (model X.prog X.w) X.A (.compLoop (.ListComp elt [⟨tg,iter,ifs,0⟩] scope pos) 0 (.ref it) (.ref D) (compEnvC scope cl C X.env)) (RR (.ref D) C) { s3 with heap:=h1,toks:=s3.toks+0 }:=by
  refine QJ (fun n s'=>∃i ys σ' H',Inv (zL X N scope cl s3 H3 fp C) [] σ' H' s'∧tn i s'.heap∧(∀b∈fp,H' b=none)∧W i n ys σ' H') ?_ m0 ⟨0,[],_,H3,I4,st4,fun b hb=>(hf3 b hb).1,w0⟩
  rintro n s5 ⟨i,ys,σ5,H5,I5,st5,fr5,w5⟩
  rcases turn i n ys σ5 H5 w5 with ⟨stop,qn⟩ | ⟨go,step⟩
  ·refine thn (T.done (zL X N scope cl s3 H3 fp C) rfl rfl rfl rfl i [] s5 σ5 H5 _ I5 (stat fr5) st5 stop) fun r s6 zz=>?_
   obtain ⟨hr,I6⟩:=zz
   subst hr
   obtain ⟨m6,n6,_⟩:=I6.loc
   refine hRR D C s6 H5 m6 (I3.call' I6.os I6.base I6.hok I6.bare fun b hb=>?_) n6 (Nat.ne_of_gt (by have:=I3.lt;rw [hC] at this;exact this)) I6.free (by have:=I3.sz;rw [hC] at this;exact this) (fun y c e z=>?_) (fun p hp z=>?_) qn
   ·obtain ⟨_,h1,_,h4,h5,h6⟩:=hf3 b hb
    exact ⟨h4,h1,h5,h6⟩
   ·obtain ⟨v,q⟩:=I3.cell y c e
    have:=q.lt
    rw [hC,z] at this
    exact Nat.lt_irrefl _ this
   ·have:=Heap.lt_size (I3.pin p hp).1
    rw [hC,z] at this
    exact Nat.lt_irrefl _ this
  ·refine thn (T.item (zL X N scope cl s3 H3 fp C) rfl rfl rfl rfl i [] s5 σ5 H5 _ I5 (stat fr5) st5 go) fun r s6 zz=>?_
   obtain ⟨u,hr,h6⟩:=zz
   subst hr
   refine thn h6 fun _ s7 zz=>?_
   obtain ⟨v,H7,I7,r7,y7,st7,fr7⟩:=zz
   have I7':=I7.pinned (stat fr7) (T.obj _ _ st7)
   refine thn (hg s3 H3 fp C _ s7 σ5 H7 v u _ I7' r7 (step v H7 y7)) fun _ s8 zz=>?_
   obtain ⟨σ8,H8,I8,q8⟩:=zz
   refine thn (ht s3 H3 fp C _ s8 σ8 H8 _ I8 q8) fun b s9 zz=>?_
   obtain ⟨H9,I9,q9⟩:=zz
   have again:∀{sE:Shared} {HE:Hp} {ysE:List V} {m':Nat},Inv (zL X N scope cl s3 H3 fp C) ([]++Qo fp s7.heap) σ8 HE sE→m' < n→W (i+1) m' ysE σ8 HE→∃m,m < n∧∃i ys σ' H',Inv (zL X N scope cl s3 H3 fp C) [] σ' H' sE∧tn i sE.heap∧(∀b∈fp,H' b=none)∧W i m ys σ' H':=fun {sE HE ysE m'} IE hm' wE=>by
    refine ⟨m',hm',i+1,ysE,σ8,HE,IE.unpinned (pins:=[]),T.keep _ _ _ st7 fun b hb o e=>(IE.pin (b,o) (kG _ (kG _ (jd hb e)))).1,fun b hb=>?_,wE⟩
    obtain ⟨o,e,d⟩:=T.obj _ _ st7 b hb
    exact (IE.pin (b,o) (kG _ (kG _ (jd hb e)))).2.1
   cases b with
   | false=>
    rw [kq ka] at q9 ⊢
    obtain ⟨m',hm',w9⟩:=q9
    exact again I9 hm' w9
   | true=>
    rw [kr rfl] at q9 ⊢
    refine thn (he s3 H3 fp C _ s9 σ8 H9 _ I9 q9) fun yv s10 zz=>?_
    obtain ⟨y,H10,I10,r10,q10⟩:=zz
    obtain ⟨hl9,hz9,m',hm',w9⟩:=q10
    obtain ⟨z9,its,k9,rv9,ll9,e9⟩:=I10.lstM hl9
    refine call_meets F.slot_list_append ⟨_,e9,rfl⟩ F.entry_list_append (F.args_list_append_2 _ _) (PySem.list_append D its.toArray k9 yv (by rw [ky];lia)) ⟨e9,?_⟩
    have I11:=I10.lset (t':=s10.toks) (its':=its++[yv]) (f:=(·.push yv)) hl9 e9 (by simp) (rv9.append (.cons r10 .nil)) (by rw [kh,kz];lia)
    exact again I11 hm' w9
 exact codeAny_compStart_list loop (T.self _ 0 _ _ _ st4 loop)
theorem qv {elt iter tg:Expr} {ifs:List Expr} {N:List Str} {nt:Nat} {ix:List Nat} {scope:Scope} {cl:List (Str × Addr)} {pos:Pos} {wi:TI} {g:TG} {tc:TT} {te:TE} (hc:X.calm=true) (sc:qh X N nt ix scope cl) (hi:PI X tg iter wi)
  (hg:∀(s:Shared) (H:Hp) (fp:List Addr) (C:Addr),PG (zL X N scope cl s H fp C) tg g)
  (ht:∀(s:Shared) (H:Hp) (fp:List Addr) (C:Addr),PTs (zL X N scope cl s H fp C) ifs tc)
  (he:∀(s:Shared) (H:Hp) (fp:List Addr) (C:Addr),PE (zL X N scope cl s H fp C) elt te) (hs:∀x,foldedSetIterable iter X.env x=pure x:=by intro _;rfl):
  PE X (.ListComp elt [⟨tg,iter,ifs,0⟩] scope pos) (Jr nt ix wi g tc te):=by
 intro pins s σ H Q I h
 rw [eval_ListComp]
 refine wpAny_comprehension_free (use:=none) rfl hs sc.clos sc.kind sc.names (thn (hi pins s σ H _ I h) fun v s1 h1=>thn h1 fun itv s2 h2=>?_)
 obtain ⟨it,fp,tn,J,H2,e,I2,T,st2,f2,q2⟩:=h2
 subst e
 refine jj (RR:=fun acc C=>compPost (model X.prog X.w) X.A X.xe none (EP X pins σ Q) acc C) hc sc I2 T st2 f2 hg ht he q2 ?_
 intro D C s' H' m I' n' c1 c2 c3 c4 c5 q'
 exact ⟨m,n',fun h' hs'=>⟨.ref D,H',I'.turned (t':=s'.toks) (it:=C) (fun b o hb e=>(hs'.2 b hb).trans e) c2 c1 (.inr c3) c4 c5,rfl,q'⟩⟩
theorem Zi {elt iter tg:Expr} {ifs:List Expr} {N:List Str} {nt:Nat} {ix:List Nat} {y:Str} {i:Nat} {py spos:Pos} {scope:Scope} {cl:List (Str × Addr)} {pos:Pos} {wi:TI} {g:TG} {tc:TT} {te:TE} (hc:X.calm=true) (hN:X.N.Nodup) (hy:X.N[i]?=some y) (hl:Loc X.env.scope y) (sc:qh X N nt ix scope cl) (hi:PI X tg iter wi)
  (hg:∀(s:Shared) (H:Hp) (fp:List Addr) (C:Addr),PG (zL X N scope cl s H fp C) tg g)
  (ht:∀(s:Shared) (H:Hp) (fp:List Addr) (C:Addr),PTs (zL X N scope cl s H fp C) ifs tc)
  (he:∀(s:Shared) (H:Hp) (fp:List Addr) (C:Addr),PE (zL X N scope cl s H fp C) elt te)
  (hsw:autoParam (swapsWith (.ListComp elt [⟨tg,iter,ifs,0⟩] scope pos) (some (.Name y py)) spos.line X.env=pure true) aR._auto_1) (hs:∀x,foldedSetIterable iter X.env x=pure x:=by intro _;rfl)
  (hf:X.fn y=true∨X.env.scope.names.lookup y=some .local:=by first | exact .inl rfl | exact .inr rfl | assumption):
  PS X (.Assign [.Name y py] (.ListComp elt [⟨tg,iter,ifs,0⟩] scope pos) spos) (z28 i (Jr nt ix wi g tc te)):=by
 intro pins s σ H D I h
 rw [exec_Assign_Name_used _ _ _ _ hsw]
 refine wpAny_bind (wpAny_standAt (wpAny_bind ?_))
 show wpAny _ X.A (do let _ ←comprehension (.ListComp elt [⟨tg,iter,ifs,0⟩] scope pos) scope X.env _ (newList []) false (eval iter X.env) (some (assign (.Name y py) X.env))) _ _ s
 refine wpAny_bind (wpAny_mono (wpAny_comprehension_free (use:=some (assign (.Name y py) X.env)) (Q:=fun _ s'=>SP X pins D .next s') (E:=X.xe) rfl hs sc.clos sc.kind sc.names
  (thn (hi pins s σ H _ I h) fun v s1 h1=>thn h1 fun itv s2 h2=>?_)) (fun _ s' hq=>wpAny_pure (wpAny_pure hq)) fun _ _ e=>e)
 obtain ⟨it,fp,tn,J,H2,e,I2,T,st2,f2,q2⟩:=h2
 subst e
 refine jj (Q:=fun v H1=>D.nx (σ.set i (some v)) H1) (RR:=fun acc C=>compPost (model X.prog X.w) X.A X.xe (some (assign (.Name y py) X.env)) (fun _ s'=>SP X pins D .next s') acc C) hc sc I2 T st2 f2 hg ht he q2 ?_
 intro l C s' H' m I' n' c1 c2 c3 c4 c5 q'
 show wpAny _ X.A (assign (.Name y py) X.env (.ref l)) _ _ _
 refine wpAny_assign_Name (Qi I' hN hy hl (v:=.ref l) rfl (fun s'' I'' k=>?_) hf)
 obtain ⟨a,sb,ha⟩:=k
 have hne:C≠a:=by
  rcases ha with ha | ha
  ·rw [ha];exact c1
  ·exact fun z=>c4 _ _ ha z.symm
 refine ⟨m,n'.sameBut sb hne,fun h' hs'=>?_⟩
 exact ⟨_,H',I''.turned (t':=s''.toks) (it:=C) (fun b o hb e=>(hs'.2 b hb).trans e) c2 c1 (.inr c3) c4 c5,q'⟩
end
end L2
namespace L2
open PySem PySem.Spec PyProof.Rows
theorem Inv.recast {X:Cx} {pins:List (Addr × Obj)} {σ:St} {H:Hp} {s:Shared} {d:Addr} {u u':HO} (I:Inv X pins σ H s) (e:H d=some u) (nt:∀xs,u≠.tup xs) (nb:∀ps,u≠.tbl ps) (no:∀x,u≠.own x)
  (hfz:∀o v,X.H₀ d≠some (.frz o v)) (ok:zN X.prog X.w (upd H d u') s.heap d u'):Inv X pins σ (upd H d u') s:=by
 have nn:∀b,H b=none→upd H d u' b=none:=fun b h=>by
  rw [zc (fun z=>by rw [z,e] at h;cases h)];exact h
 refine { I with base:=⟨I.base.keep,I.base.slot,fun b o q n hx=>nn b (I.base.free b o q n hx),I.base.there,fun b xs q=>?_,fun b o v q=>?_,fun b ps q=>?_⟩,free:=nn _ I.free,freeC:=fun x c q=>nn _ (I.freeC x c q),pin:=fun p hp=>?_,hok:=fun b v q=>?_ }
 ·have:=I.base.tups b xs q
  rw [zc (fun z=>by rw [z,e] at this;exact nt xs (ku this))];exact this
 ·have:=I.base.frzs b o v q
  rw [zc (fun z=>hfz o v (by rw [←z];exact q))];exact this
 ·obtain ⟨m,h⟩:=I.base.tbls b ps q
  exact ⟨m,by rw [zc (fun z=>by rw [z,e] at h;exact nb _ (ku h))];exact h⟩
 ·obtain ⟨a,b,c⟩:=I.pin p hp
  exact ⟨a,nn _ b,c⟩
 ·by_cases hb:b=d
  ·subst hb;rw [z6] at q;cases q;exact ok
  ·rw [zc hb] at q
   refine (I.hok b v q).stay (fun _ _ _ z=>z) (fun c z=>?_) fun c xs z=>?_
   ·rw [zc (fun y=>by rw [y,e] at z;exact no _ (ku z))];exact z
   ·rw [zc (fun y=>by rw [y,e] at z;exact nt _ (ku z))];exact z
theorem Inv.nofrz {X:Cx} {pins:List (Addr × Obj)} {σ:St} {H:Hp} {s:Shared} {d:Addr} {u:HO} (I:Inv X pins σ H s) (e:H d=some u) (nf:∀o v,u≠.frz o v):∀o v,X.H₀ d≠some (.frz o v):=fun o v q=>by
 have:=I.base.frzs d o v q
 rw [e] at this
 exact nf o v (ku this)
theorem z1o {k:Key} {u:Value} (h:Jb k u=true):RelV (kV k) u:=by
 rcases zJ h with ⟨i,t,rfl,rfl⟩ | ⟨x,t,rfl,rfl⟩
 ·exact ⟨t,rfl⟩
 ·exact ⟨t,rfl⟩
theorem KV.get {kvs:List (Key × V)} {vs:List (Key × Value)} (r:KV kvs vs):∀{i:Nat} {p:Key × V},kvs[i]?=some p→∃v,vs[i]?=some (p.1,v)∧RelV p.2 v:=by
 unfold KV at r
 induction r with
 | nil=>intro i p h;simp at h
 | @cons p q ps qs h t ih=>
  intro i p' hp
  cases i with
  | zero=>
   simp at hp
   subst hp
   exact ⟨q.2,by rw [h.1];rfl,h.2⟩
  | succ i=>
   obtain ⟨v,h1,h2⟩:=ih (by simpa using hp)
   exact ⟨v,by simpa using h1,h2⟩
noncomputable def Itd (a:Addr) (o:Obj) (kvs:List (Key × V)):It:=
 ⟨fun i H=>H a=some (.frz o (.dK kvs))∧i < kvs.length,fun i H x H'=>∃p k v,x=.ref p∧H p=none∧kvs[i]?=some (k,v)∧H'=upd H p (.tup [kV k,v]),fun i H=>H a=some (.frz o (.dK kvs))∧kvs.length≤i⟩
theorem z1J:entryFor table "dict_itemiterator.__iter__"=some Builtin.«dict_keyiterator.__iter__»:=
 entryFor_alias (id':="dict_keyiterator.__iter__") (by rw [fastTable_eq_tree];kernel_rfl) (by kernel_rfl) (by kernel_rfl) (by rw [fastTable_eq_tree];kernel_rfl)
theorem qV {prog:Program} {w:World} {A:Around} {E:Value→Shared→Prop} {s:Shared} {it d:Addr} {i n ep:Nat} {ok ov:Value} {Q:Value→Shared→Prop} (he:IsItemIter s.heap it d i n ep ok ov) (h:Q (.ref it) s):
  wpAny (model prog w) A (pyIter (.ref it)) Q E s:=by
 have hT:s.TypeIs (.ref it) "dict_itemiterator":=⟨_,he,rfl⟩
 refine wpAny_pyIter_slot hT F.slot_dict_itemiterator_iter (wpAny_call_entry F.slot_dict_itemiterator_iter hT z1J ?_ (F.args_dict_itemiterator_iter_1 _))
 show wpAny _ _ (ret (.ref it)) _ _ s
 exact wpAny_pure ⟨_,rfl,"dict_itemiterator",_,hT,F.slot_dict_itemiterator_next.lookup,h⟩
theorem JZ {P:Program} {w:World} {K:ko} {elts:List Expr} {x1} {pos:Pos} (a it:Addr) (o:Obj) (kvs:List (Key × V)):
  Turn P w K (.Tuple elts x1 pos) (Itd a o kvs) [it] it (fun i h=>∃es ep ok ov,o.data=.dict es ep∧IsItemIter h it a i kvs.length ep ok ov) where
 mem:=by simp
 obj:=fun i h st b hb=>by
  have z:b=it:=by simpa using hb
  subst z
  obtain ⟨es,ep,ok,ov,_,q⟩:=st
  exact ⟨_,q,fun v y=>by cases y⟩
 keep:=fun i h h' st k=>let ⟨es,ep,ok,ov,d,q⟩:=st;⟨es,ep,ok,ov,d,k it (by simp) _ q⟩
 item:=by
  intro X hP hw hK hc i pins s σ H E I hf st hg
  subst hP hw hK
  obtain ⟨hq,hi⟩:=hg
  obtain ⟨es,ep,ok,ov,hd,hit⟩:=st
  obtain ⟨ho,hz,hsy,vs,rel,ob,es',ep',hob,hex,hdat,r3⟩:=(show zN X.prog X.w H s.heap a (.frz o (.dK kvs)) from I.hok a _ hq)
  rw [ho] at hob
  cases hob
  rw [hd] at hdat
  cases hdat
  have hm:s.heap.DictAt (zD X.prog X.w) a vs ep:=⟨o,es,ho,hex,hd,r3⟩
  have hlen:kvs.length=vs.length:=Paired.length rel
  obtain ⟨p,hp⟩:∃p,kvs[i]?=some p:=⟨kvs[i],kE hi⟩
  obtain ⟨v,hv,rv⟩:=rel.get hp
  have fi:=hf it (by simp)
  rw [hlen] at hit
  refine wpAny_pyNext_items_item hit hm hv fun key h' hkey heo ht hsz hk=>⟨_,rfl,?_⟩
  have rk:RelV (kV p.1) key:=z1o hkey
  have new:zN X.prog X.w (upd H s.heap.objs.size (.tup [kV p.1,p.2])) h' s.heap.objs.size (.tup [kV p.1,p.2]):=⟨by show 2≤sizeLine;decide,[key,v],.cons rk (.cons rv .nil),_,ht,rfl,_,rfl⟩
  have I1:Inv X pins σ (upd H s.heap.objs.size (.tup [kV p.1,p.2])) { s with heap:=h',toks:=s.toks }:=I.turned2 (e:=it) (it:=it) (t':=s.toks) (fun b o hb _ e=>hk b o hb e) (fun b hb=>by
   have z:b=it:=by simpa using hb
   subst z;exact ⟨_,heo⟩) fi fi new
  have ne1:it≠s.heap.objs.size:=Nat.ne_of_lt (Heap.lt_size hit)
  refine wpAny_letOwnedTupleGo_items (s:={ s with heap:=h' }) heo fun h2 he2 hs2=>?_
  refine ⟨.ref s.heap.objs.size,_,I1.turned (t':=s.toks) (it:=it) (fun b o hb q=>(hs2.2 b hb).trans q) (by rw [zc ne1];exact fi.1) fi.2.1 fi.2.2.2.1 fi.2.2.2.2.1 fi.2.2.2.2.2,rfl,⟨_,p.1,p.2,rfl,I.fresh,hp,rfl⟩,⟨es,ep,key,v,hd,by rw [hlen];exact he2⟩,fun b hb=>?_⟩
  have z:b=it:=by simpa using hb
  subst z;rw [zc ne1];exact fi.1
 done:=by
  intro X hP hw hK hc i pins s σ H E I hf st hg
  subst hP hw hK
  obtain ⟨hq,hi⟩:=hg
  obtain ⟨es,ep,ok,ov,hd,hit⟩:=st
  obtain ⟨ho,hz,hsy,vs,rel,ob,es',ep',hob,hex,hdat,r3⟩:=(show zN X.prog X.w H s.heap a (.frz o (.dK kvs)) from I.hok a _ hq)
  rw [ho] at hob
  cases hob
  rw [hd] at hdat
  cases hdat
  have hm:s.heap.DictAt (zD X.prog X.w) a vs ep:=⟨o,es,ho,hex,hd,r3⟩
  have hlen:kvs.length=vs.length:=Paired.length rel
  rw [hlen] at hit hi
  obtain ⟨f0,f1,f2,f3,f4,f5⟩:=hf it (by simp)
  exact wpAny_pyNext_items_end (I.ok.hd hc) hit hm (by rw [List.getElem?_eq_none_iff];exact hi) fun h' eb=>⟨rfl,I.turned (t':=s.toks) (fun b o hb e=>eb b o hb e) f0 f1 f3 f4 f5⟩
 self:=fun _ _ _ _ _ st h=>let ⟨es,ep,ok,ov,_,q⟩:=st;qV q h
section
variable {X:Cx}
def z4u (nt:Nat) (ix:List Nat) (td:TE) (g:TG) (tc:TT) (te:TE):TE:=fun σ H Q=>td σ H fun x H1=>∃a kvs,x=.ref a∧H1 a=some (.dK kvs)∧∀o l,H1 l=none→∃W:Nat→Nat→List V→St→Hp→Prop,(∃m,W 0 m [] (jS nt ix σ) (upd (upd H1 a (.frz o (.dK kvs))) l (.lst [])))∧∀i m ys σ' H2,W i m ys σ' H2→
 H2 a=some (.frz o (.dK kvs))∧(kvs.length≤i→Q (.ref l) (upd H2 a (.dK kvs)))∧(∀p k v,kvs[i]?=some (k,v)→H2 p=none→g (.ref p) σ' (upd H2 p (.tup [kV k,v])) fun σ2 H4=>tc σ2 H4 fun b H5=>if b=true then te σ2 H5 fun v H6=>H6 l=some (.lst ys)∧ys.length < sizeLine∧∃m',m' < m∧W (i+1) m' (ys++[v]) σ2 (upd H6 l (.lst (ys++[v])))
  else ∃m',m' < m∧W (i+1) m' ys σ2 H5)
theorem z2n {elt o:Expr} {elts:List Expr} {x1} {tp apos cpos:Pos} {ifs:List Expr} {N:List Str} {nt:Nat} {ix:List Nat} {scope:Scope} {cl:List (Str × Addr)} {pos:Pos} {td:TE} {g:TG} {tc:TT} {te:TE} (hc:X.calm=true) (sc:qh X N nt ix scope cl) (ho:PE X o td)
  (hg:∀(s:Shared) (H:Hp) (fp:List Addr) (C:Addr),PG (zL X N scope cl s H fp C) (.Tuple elts x1 tp) g)
  (ht:∀(s:Shared) (H:Hp) (fp:List Addr) (C:Addr),PTs (zL X N scope cl s H fp C) ifs tc)
  (he:∀(s:Shared) (H:Hp) (fp:List Addr) (C:Addr),PE (zL X N scope cl s H fp C) elt te) (hs:∀x,foldedSetIterable (.Call (.Attribute o "items" apos) [] [] cpos) X.env x=pure x:=by intro _;rfl)
  (hbase:autoParam (attributeBase o "items" X.env (eval o X.env)=eval o X.env) aR._auto_1) (hline:autoParam ((apos.endLine == cpos.line)=true) aR._auto_1):
  PE X (.ListComp elt [⟨.Tuple elts x1 tp,.Call (.Attribute o "items" apos) [] [] cpos,ifs,0⟩] scope pos) (z4u nt ix td g tc te):=by
 intro pins s σ H Q I h
 rw [eval_ListComp]
 refine wpAny_comprehension_free (use:=none) rfl hs sc.clos sc.kind sc.names ?_
 refine wpAny_Call_method0_late hbase hline (thn (ho pins s σ H _ I h) fun v s1 zz=>?_)
 obtain ⟨x,H1,I1,r1,a,kvs,ex,ha,q1⟩:=zz
 subst ex
 cases r1
 obtain ⟨hz,hsy,vs,rel,dd⟩:=z2Q I1.hok ha
 obtain ⟨ob,es,ep,hob,hex,hdat,r3⟩:=id dd
 have hlen:kvs.length=vs.length:=Paired.length rel
 refine ⟨"dict",_,F.plainAttrs_dict,F.slot_dict_items,F.type_dict_items,⟨ob,hob,hex.1⟩,fun b z=>(by cases z;exact ⟨ob,hob,hex.2.1⟩),Calls.callWith_builtin rfl (PySem.evalArgs_none ?_)⟩
 refine call_meetsIn F.slot_dict_items dd.typeIs F.entry_dict_items (F.args_dict_items_1 _) (meets_dict_items (zD X.prog X.w) a hsy) ⟨⟨vs,dd⟩,?_⟩
 have k2:∀b o,s1.heap.get? b=some o→(s1.heap.push { cls:=.type "dict_items",data:=.fields #[.ref a] }).get? b=some o:=fun b o e=>Heap.get?_push_of_some _ e
 have I2:Inv X pins σ H1 { s1 with heap:=s1.heap.push { cls:=.type "dict_items",data:=.fields #[.ref a] } }:=I1.kept (t':=s1.toks) k2
 have hm:(s1.heap.push { cls:=.type "dict_items",data:=.fields #[.ref a] }).DictAt (zD X.prog X.w) a vs ep:=⟨ob,es,k2 _ _ hob,hex,hdat,r3⟩
 generalize hs2:({ s1 with heap:=s1.heap.push { cls:=.type "dict_items",data:=.fields #[.ref a] } }:Shared)=s2 at *
 have hm2:s2.heap.DictAt (zD X.prog X.w) a vs ep:=by rw [←hs2];exact hm
 have hview:s2.heap.IsItemsView s1.heap.objs.size a:=⟨_,by rw [←hs2];exact Heap.get?_push_size _ rfl,rfl,rfl⟩
 refine wpAny_pyIter_items hview hm2 ?_
 have k3:∀b o,s2.heap.get? b=some o→(s2.heap.push { cls:=.type "dict_itemiterator",data:=.fields #[.none,.bool false,.ref a,.int 0 0,.int vs.length 0,.int ep 0,.none,.none] }).get? b=some o:=fun b o e=>Heap.get?_push_of_some _ e
 have I3:Inv X pins σ H1 { s2 with heap:=s2.heap.push { cls:=.type "dict_itemiterator",data:=.fields #[.none,.bool false,.ref a,.int 0 0,.int vs.length 0,.int ep 0,.none,.none] } }:=I2.kept (t':=s2.toks) k3
 have hob3:(s2.heap.push { cls:=.type "dict_itemiterator",data:=.fields #[.none,.bool false,.ref a,.int 0 0,.int vs.length 0,.int ep 0,.none,.none] }).get? a=some ob:=k3 _ _ (by rw [←hs2];exact k2 _ _ hob)
 have nf:=I3.nofrz ha (fun _ _=>nofun)
 have I4:=I3.recast (u':=.frz ob (.dK kvs)) ha (fun _=>nofun) (fun _=>nofun) (fun _=>nofun) nf ⟨hob3,hz,hsy,vs,rel,ob,es,ep,hob3,hex,hdat,r3⟩
 have itn:H1 s2.heap.objs.size=none:=I2.fresh
 have nea:s2.heap.objs.size≠a:=(z8 ha itn).symm
 refine jj (Q:=fun v H'=>H' a=some (.frz ob (.dK kvs))∧Q v (upd H' a (.dK kvs))) (RR:=fun acc C=>compPost (model X.prog X.w) X.A X.xe none (EP X pins σ Q) acc C) hc sc I4 (JZ a s2.heap.objs.size ob kvs) ⟨es,ep,.none,.none,hdat,by rw [hlen];exact Heap.get?_push_size _ rfl⟩ (fun b hb=>?_) hg ht he (fun l hl=>?_) ?_
 ·have z:b=s2.heap.objs.size:=by simpa using hb
  subst z
  exact I2.fpOk (kc _) (by rw [zc nea];exact itn)
 ·have hl1:H1 l=none:=by
   cases q:H1 l with
   | none=>rfl
   | some u=>
    by_cases z:l=a
    ·subst z;rw [z6] at hl;cases hl
    ·rw [zc z,q] at hl;cases hl
  obtain ⟨W,w0,turn⟩:=q1 ob l hl1
  refine ⟨W,w0,fun i m ys σ' H2 hW=>?_⟩
  obtain ⟨t1,t2,t3⟩:=turn i m ys σ' H2 hW
  by_cases hlt:i < kvs.length
  ·refine .inr ⟨⟨t1,hlt⟩,fun x H3 y=>?_⟩
   obtain ⟨p,k,v,rfl,hp,hkv,rfl⟩:=y
   exact t3 p k v hkv hp
  ·exact .inl ⟨⟨t1,by lia⟩,t1,t2 (by lia)⟩
 ·intro D C s' H' m I' n' c1 c2 c3 c4 c5 q'
  obtain ⟨q5,q6⟩:=q'
  refine ⟨m,n',fun h' hs'=>?_⟩
  have I5:=I'.turned (t':=s'.toks) (it:=C) (h':=h') (fun b o hb e=>(hs'.2 b hb).trans e) c2 c1 (.inr c3) c4 c5
  obtain ⟨hob5,ok5⟩:=(show zN X.prog X.w H' h' a (.frz ob (.dK kvs)) from I5.hok a _ q5)
  obtain ⟨z1,z2,vs',rel',dd'⟩:=(show zN X.prog X.w H' h' a (.dK kvs) from ok5)
  exact ⟨.ref D,_,I5.recast (u':=.dK kvs) q5 (fun _=>nofun) (fun _=>nofun) (fun _=>nofun) nf ⟨z1,z2,vs',rel',dd'⟩,rfl,q6⟩
theorem z23 {bs:List Bool} {us:List Value} (r:Vals (bs.map V.bl) us):us=bs.map Value.bool:=by
 induction bs generalizing us with
 | nil=>cases r;rfl
 | cons b bs ih=>
  cases r with
  | cons x y=>cases x;rw [ih y];rfl
theorem Qe (hc:X.calm=true):Zx X (.builtin "all") (fun xs H Q=>∃(p:Addr) (bs:List Bool),xs=[.ref p]∧SqL X.K H p (bs.map V.bl)∧Q (.bl (bs.all id)) H):=by
 intro pins s σ H xs us Q I r h
 obtain ⟨p,bs,rfl,hS,q⟩:=h
 obtain ⟨u,rfl,ru⟩:=JX r
 cases ru
 obtain ⟨its,rv,pl,hz⟩:=I.list hS
 obtain rfl:=z23 rv
 have hh:X.A.in1.handled=none:=I.ok.hd hc
 have hne:p≠s.heap.objs.size:=Nat.ne_of_lt (by obtain ⟨o,_,e,_⟩:=pl;exact Heap.lt_size e)
 refine call_all_walk (wpAny_pyIter_list pl.isList ?_)
 refine ⟨s.heap.objs.size,_,_,_,_,_,fun i=>(bs[i]?).getD true,rfl,Walks.list hh s.heap.objs.size p hne (bs.map Value.bool).toArray,⟨⟨_,Heap.get?_push_size _ rfl,rfl,rfl⟩,pl.isList.push _⟩,fun i v s' Q' E' hv hq=>?_,fun h' tk hk=>?_⟩
 ·have hv:(bs.map Value.bool).toArray[i]?=some v:=hv
  rw [List.getElem?_toArray,List.getElem?_map] at hv
  cases hb:bs[i]? with
  | none=>rw [hb] at hv;cases hv
  | some b=>
   rw [hb] at hv
   cases hv
   have hq:Q' ((bs[i]?).getD true) s':=hq
   rw [hb] at hq
   exact wpAny_truthy_bool hq
 ·have e:(List.range (bs.map Value.bool).toArray.size).all (fun i=>(bs[i]?).getD true)=bs.all id:=by
   rw [ky,kg,Bool.eq_iff_iff,List.all_eq_true,List.all_eq_true]
   constructor
   ·intro h b hb
    obtain ⟨i,hi⟩:=List.getElem?_of_mem hb
    have:=h i (List.mem_range.mpr (kd.mp hi).1)
    rw [hi] at this
    exact this
   ·intro h i hi
    rw [kE (List.mem_range.mp hi)]
    exact h _ (List.getElem_mem _)
  rw [e]
  refine ⟨.bl _,H,I.kept (t':=tk) fun b o e=>hk b o (fun z=>?_) (Heap.get?_push_of_some _ e),rfl,q⟩
  have:b=s.heap.objs.size:=by simpa using z
  rw [this] at e
  exact absurd (Heap.lt_size e) (Nat.lt_irrefl _)
def z4q (tab:List (Str × V)) (ty tx:TE):TE:=fun σ H Q=>ty σ H fun y H1=>tx σ H1 fun z H2=>∃x,y=.str x∧Q ((tab.lookup x).getD z) H2
theorem Z3 {nm:Str} {e f:Expr} {p apos cpos:Pos} {d:Addr} {tab:List (Str × V)} {ty tx:TE} (T:KTab X.w.params X.K d tab) (hg:Gl X nm) (hm:X.mg nm=some (.ref d)) (he:PE X e ty) (hf:PE X f tx) (m:M2 X (.Name nm p) "get" apos e f cpos) (hd:autoParam ((nm == ("__debug__":Str))=false) aR._auto_2):
  PE X (.Call (.Attribute (.Name nm p) "get" apos) [e,f] [] cpos) (z4q tab ty tx):=by
 intro pins s σ H Q I h
 refine wpAny_Call_method m.base m.few m.line PySem.F.plainAttrs_dict PySem.F.slot_dict_get PySem.F.type_dict_get (Zo I hg hm ?_ hd)
 obtain ⟨es,n,hl,hk,hsy,hp⟩:=id T
 have ho:=I.kIn d _ hl
 refine ⟨⟨_,ho,rfl⟩,fun b z=>(by cases z;exact ⟨_,ho,rfl⟩),?_⟩
 rw [m.trees]
 refine Calls.callWith_builtin rfl (Calls.evalArgs_plain (Calls.spliced_cons (thn (he pins s σ H _ I h) fun iv s2 ⟨y,H2,I2,ry,q2⟩=>
  Calls.spliced_cons (thn (hf pins s2 σ H2 _ I2 q2) fun fv s3 ⟨z,H3,I3,rz,x,ex,q3⟩=>Calls.spliced_nil ?_))))
 subst ex
 obtain ⟨t,rfl⟩:=ry
 obtain ⟨fm,mo,_,hf⟩:=Q4 (prog:=X.prog) (w:=X.w) rfl T I3.kIn
 refine call_meetsIn PySem.F.slot_dict_get mo.typeIs PySem.F.entry_dict_get (PySem.F.args_dict_get_3 _ _ _) (meets_dict_get_default (strKind X.prog X.w) d (strKind_is X.prog X.w x t) hsy fv) ⟨_,mo,_,H3,I3.tok _,(hf x).getD rz,q3⟩
end
end L2
namespace L2
open PySem PySem.Spec PyProof.Rows
section
variable {X:Cx}
noncomputable def qU:V→PyData
 | .int i=>.int i
 | .str x=>.str x
 | .bl b=>.bool b
 | _=>.none
theorem z0l {h:Heap} {x:V} {u:Value} (f:qI x=true) (r:RelV x u):Reads h u (qU x) []:=by
 cases x with
 | non=>cases r;exact .none
 | bl b=>cases r;exact .bool b
 | int i=>obtain ⟨t,rfl⟩:=r;exact .int i t
 | str z=>obtain ⟨t,rfl⟩:=r;exact .str z t
 | _=>cases f
theorem Jh (x:V):(qU x).hasDict=false∧(qU x).depth=0:=by
 cases x <;> exact ⟨by simp only [qU,PyData.hasDict],by simp only [qU,PyData.depth]⟩
theorem jQ:∀xs:List V,PyData.hasDictAll (xs.map qU)=false∧PyData.depthAll (xs.map qU)=0
 | []=>⟨by simp only [List.map_nil,PyData.hasDictAll],by simp only [List.map_nil,PyData.depthAll]⟩
 | x :: xs=>by
  obtain ⟨a,b⟩:=Jh x
  obtain ⟨c,d⟩:=jQ xs
  exact ⟨by simp only [kM,PyData.hasDictAll,a,c,Bool.or_self],by simp only [kM,PyData.depthAll,b,d];rfl⟩
end
end L2
namespace L2
open PySem PySem.Spec PyProof.Rows
mutual
inductive RdV (K:ko) (H:Hp):V→PyData→Prop where
 | flat {x:V} (f:qI x=true):RdV K H x (qU x)
 | tup {a:Addr} {xs:List V} {ds:List PyData} (h:SqT K H a xs) (r:RdVs K H xs ds):RdV K H (.ref a) (.tuple ds)
 | lst {a:Addr} {xs:List V} {ds:List PyData} (h:SqL K H a xs) (r:RdVs K H xs ds):RdV K H (.ref a) (.list ds)
inductive RdVs (K:ko) (H:Hp):List V→List PyData→Prop where
 | nil:RdVs K H [] []
 | cons {x:V} {d:PyData} {xs:List V} {ds:List PyData} (h:RdV K H x d) (t:RdVs K H xs ds):RdVs K H (x :: xs) (d :: ds)
end
section
variable {X:Cx} {pins:List (Addr × Obj)} {σ:St} {H:Hp} {s:Shared}
mutual
theorem ZS (I:Inv X pins σ H s) {x:V} {u:Value} {d:PyData} (r:RelV x u) (h:RdV X.K H x d):∃as,Reads s.heap u d as:=by
 cases h with
 | flat f=>exact ⟨_,z0l f r⟩
 | tup h t=>
  cases r
  obtain ⟨its,rv,⟨o,ho,hc,m,hd⟩,_⟩:=I.tuple h
  obtain ⟨as,q⟩:=Ze I rv t
  exact ⟨_,.tuple ho hc hd q⟩
 | lst h t=>
  cases r
  obtain ⟨its,rv,⟨o,m,ho,hc,_,hd⟩,_⟩:=I.list h
  obtain ⟨as,q⟩:=Ze I rv t
  exact ⟨_,.list ho hc hd q⟩
theorem Ze (I:Inv X pins σ H s) {xs:List V} {us:List Value} {ds:List PyData} (r:Vals xs us) (h:RdVs X.K H xs ds):∃as,ReadsAll s.heap us ds as:=by
 cases h with
 | nil=>cases r;exact ⟨_,.nil⟩
 | cons h t=>
  cases r with
  | cons r1 r2=>
   obtain ⟨as,q1⟩:=ZS I r1 h
   obtain ⟨bs,q2⟩:=Ze I r2 t
   exact ⟨_,.cons q1 q2⟩
end
end
noncomputable def z3g (d:PyData):Bool:=d.showable&& !d.hasDict&&decide (d.depth≤5)&&decide (d.shown.length≤2000)
def z4p (K:ko) (t:TE):TE:=fun σ H Q=>t σ H fun x H1=>∃a d,x=.ref a∧RdV K H1 x d∧z3g d=true∧Q (.str d.shown) H1
theorem z5j {X:Cx} {value:Expr} {pos:Pos} {t:TE} (hr:Room 1 X.A) (h:PE X value t):PE X (.FormattedValue value (-1) none pos) (z4p X.K t):=by
 intro pins s σ H Q I hq
 refine wpAny_FormattedValue_plain (thn (h pins s σ H _ I hq) fun v s1 h1=>?_)
 have hg:=hr.gd
 have hu:=hr.un
 obtain ⟨x,H1,I1,r1,a,d,rfl,hR,hk,q⟩:=h1
 cases r1
 obtain ⟨as,rr⟩:=ZS I1 (x:=.ref a) (u:=.ref a) rfl hR
 unfold z3g at hk
 simp only [kW,kX,Bool.not_eq_true'] at hk
 obtain ⟨⟨⟨k1,k2⟩,k3⟩,k4⟩:=hk
 refine formatField_of_reads rr k1 (PyData.noDict_hsm k2) hg (by lia) (fun _ _ e=>e) (fun h' u tk hk=>?_) ?_
 ·exact ⟨.str _,H1,I1.kept hk,⟨_,rfl⟩,q⟩
 ·rw [sizeLine_eq]
  lia
end L2
namespace L2
open PySem PySem.Spec PyProof.Rows
section
variable {X:Cx}
end
structure z3z (d:PyData):Prop where
 sh:d.showable=true
 nd:d.hasDict=false
 dp:d.depth≤5
 ln:d.shown.length≤100000
def z4o (K:ko) (t:TE):TE:=fun σ H Q=>t σ H fun x H1=>∃a d,x=.ref a∧RdV K H1 x d∧z3z d∧Q (.str d.shown) H1
theorem z2j {X:Cx} {value:Expr} {pos:Pos} {t:TE} (hr:Room 1 X.A) (h:PE X value t):PE X (.FormattedValue value (-1) none pos) (z4o X.K t):=by
 intro pins s σ H Q I hq
 refine wpAny_FormattedValue_plain (thn (h pins s σ H _ I hq) fun v s1 h1=>?_)
 have hg:=hr.gd
 have hu:=hr.un
 obtain ⟨x,H1,I1,r1,a,d,rfl,hR,⟨k1,k2,k3,k4⟩,q⟩:=h1
 cases r1
 obtain ⟨as,rr⟩:=ZS I1 (x:=.ref a) (u:=.ref a) rfl hR
 refine formatField_of_reads rr k1 (PyData.noDict_hsm k2) hg (by lia) (fun _ _ e=>e) (fun h' u tk hk=>?_) ?_
 ·exact ⟨.str _,H1,I1.kept hk,⟨_,rfl⟩,q⟩
 ·rw [sizeLine_eq]
  lia
def qC (x:V):Prop:=qI x=true∧(qU x).showable=true∧(qU x).shown.length≤60
theorem QN:∀{xs:List V},(∀x∈xs,qC x)→xs.all qI=true∧PyData.showableAll (xs.map qU)=true∧((PyData.shownAll (xs.map qU)).map (fun t=>t.length)).sum≤60 * xs.length∧(PyData.shownAll (xs.map qU)).length=xs.length
 | [],_=>⟨rfl,by simp only [List.map_nil,PyData.showableAll],by simp only [List.map_nil,PyData.shownAll];decide,by simp only [List.map_nil,PyData.shownAll];rfl⟩
 | x :: xs,h=>by
  obtain ⟨a,b,c,d⟩:=QN (xs:=xs) fun y hy=>h y (kK _ hy)
  obtain ⟨e,f,g⟩:=h x (kJ ..)
  refine ⟨by rw [List.all_cons,e,a];rfl,by simp only [kM,PyData.showableAll,f,b,Bool.and_self],?_,?_⟩
  ·simp only [kM,PyData.shownAll,List.sum_cons,kI]
   lia
  ·simp only [kM,PyData.shownAll,kI]
   lia
end L2
namespace L2
open PySem PySem.Spec PyProof.Rows
theorem Za:∀{ns:List Int} {us:List Value},us.length=ns.length→(∀(j:Nat) v,us[j]?=some v→∃t,∃i,ns[j]?=some i∧v=Value.int i t)→Vals (ns.map V.int) us
 | [],[],_,_=>.nil
 | [],_ :: _,h,_=>by cases h
 | _ :: _,[],h,_=>by cases h
 | n :: ns,u :: us,h,g=>by
  obtain ⟨t,i,e1,e2⟩:=g 0 u rfl
  cases e1
  refine .cons ⟨t,e2⟩ (Za (by simpa using h) fun j v e=>?_)
  obtain ⟨t,i,e1,e2⟩:=g (j+1) v (by simpa using e)
  exact ⟨t,i,by simpa using e1,e2⟩
section
variable {X:Cx}
theorem QK:Zx X (.builtin "sorted") (fun xs H Q=>∃(l:Addr) (ns:List Int),xs=[.ref l]∧SqL X.K H l (ns.map V.int)∧ns.length < 64∧∀(d:Addr) (ns':List Int),H d=none→ns'.Perm ns→ns'.Pairwise (· ≤·)→Q (.ref d) (upd H d (.lst (ns'.map V.int)))):=by
 intro pins s σ H xs us Q I r h
 obtain ⟨l,ns,rfl,hl,hz,q⟩:=h
 obtain ⟨u,rfl,ru⟩:=JX r
 obtain rfl:u=Value.ref l:=ru
 obtain ⟨its,rv,pl,_⟩:=I.list hl
 have hlen:=rv.length
 rw [kg] at hlen
 refine sorted_ints pl.isList (ZJ rv) (by lia) fun out ns' a1 a2 a3=>?_
 obtain ⟨e,he⟩:=sortedAll_at s.heap its out
 have hll:(ns'.map V.int).length≤sizeLine:=by rw [kg,a2.length_eq,sizeLine_eq];lia
 refine ⟨.ref (s.heap.objs.size+1),_,I.laid (t':=s.toks) (fun b o=>sortedAll_old) (Nat.le_succ _) (show zN X.prog X.w _ _ _ (.lst (ns'.map V.int)) from ⟨hll,out.toList,e,Z9 a1,?_⟩),rfl,q _ ns' (I.hok.fresh (Nat.le_succ _)) a2 a3⟩
 rw [he]
def rEqI (K:ko):R2:=fun x y H Q=>∃(p q:Addr) (ns ms:List Int),x=.ref p∧y=.ref q∧SqL K H p (ns.map V.int)∧SqL K H q (ms.map V.int)∧Q (.bl (decide (ns=ms))) H
theorem z4R (hu:X.A.units < cLine):OpR X (compareOp .Eq) (rEqI X.K):=by
 intro pins s σ H x y v u Q I rx ry h
 obtain ⟨l,l',ss,ss',rfl,rfl,hl,hl',q⟩:=h
 cases rx
 cases ry
 obtain ⟨its,rv,pl,_⟩:=I.list hl
 have hlen:=rv.length
 rw [kg] at hlen
 obtain ⟨its',rv',pl',_⟩:=I.list hl'
 have hlen':=rv'.length
 rw [kg] at hlen'
 by_cases hz:its.length=its'.length
 ·refine SeqAt.eq_listAt (e:=fun j=>decide (ss[j]?=ss'[j]?)) pl.isList pl'.isList (by simpa using hz) hu (fun j h1 h2=>?_) ⟨.bl _,H,I,rfl,?_⟩
  ·have h1:j < its.length:=by simpa using h1
   have h2:j < its'.length:=by simpa using h2
   have k1:j < ss.length:=by lia
   have k2:j < ss'.length:=by lia
   obtain ⟨u,e1,t,r1⟩:=rv.get (show (ss.map V.int)[j]?=some (.int ss[j]) by simp [k1])
   obtain ⟨u',e2,t',r2⟩:=rv'.get (show (ss'.map V.int)[j]?=some (.int ss'[j]) by simp [k2])
   have f1:its.toArray[j]=.int ss[j] t:=by
    have:=kE h1
    rw [e1] at this
    rw [←r1]
    simpa using (ku this).symm
   have f2:its'.toArray[j]=.int ss'[j] t':=by
    have:=kE h2
    rw [e2] at this
    rw [←r2]
    simpa using (ku this).symm
   rw [f1,f2]
   have e:decide (ss[j]?=ss'[j]?)=(ss[j] == ss'[j]):=by
    rw [kE k1,kE k2]
    by_cases e:ss[j]=ss'[j] <;> simp [e]
   rw [e]
   exact SeqAt.EqAt.int_int _ _ _ _
  ·have e:(List.range its.toArray.size).all (fun j=>decide (ss[j]?=ss'[j]?))=decide (ss=ss'):=by
    rw [Bool.eq_iff_iff,List.all_eq_true,decide_eq_true_iff]
    refine ⟨fun h=>List.ext_getElem? fun j=>?_,fun e j _=>by rw [e];simp⟩
    by_cases hj:j < its.length
    ·exact kw (h j (List.mem_range.mpr (by simpa using hj)))
    ·rw [List.getElem?_eq_none (by lia),List.getElem?_eq_none (by lia)]
   rw [e]
   exact q
 ·refine SeqAt.eq_list_lengthsAt pl.isList pl'.isList (by simpa using hz) hu ⟨.bl _,H,I,rfl,?_⟩
  have:decide (ss=ss')=false:=ke fun z=>hz (by rw [←hlen,←hlen',z])
  rw [this] at q
  exact q
def z3M:V→List V→Hp→VK→Prop:=fun x vs H Q=>∃(l:Addr) (ns:List Int) (i:Int) (j:Nat),x=.ref l∧vs=[.int i]∧H l=some (.lst (ns.map V.int))∧ns[j]?=some i∧(∀m,m < j→ns[m]?≠some i)∧ns.length≤1000∧Q (.int (j:Nat)) H
theorem z1h:MtM X "list.index" z3M:=by
 intro pins s σ H x vs v us Q I rx rv h
 obtain ⟨l,ns,i,j,rfl,rfl,hH,hj,hno,hz,q⟩:=h
 cases rx
 obtain ⟨u,rfl,t,rfl⟩:=rv.one
 obtain ⟨z,its,n,r,hl,e⟩:=I.lstM hH
 rw [kg] at hl
 have at_:∀(m:Nat) (hm:m < its.toArray.size),∃k tk,ns[m]?=some k∧its.toArray[m]=.int k tk:=fun m hm=>by
  have hm:m < its.length:=by simpa using hm
  have k1:m < ns.length:=by lia
  obtain ⟨u,e1,tk,r1⟩:=r.get (show (ns.map V.int)[m]?=some (.int ns[m]) by simp [k1])
  refine ⟨ns[m],tk,by simp [k1],?_⟩
  have:=kE hm
  rw [e1] at this
  rw [←r1]
  simpa using (ku this).symm
 have hjl:j < ns.length:=(kd.mp hj).1
 refine call_meets F.slot_list_index ⟨_,e,rfl⟩ F.entry_list_index (F.args_list_index_2 _ _)
  (SeqAt.list_indexAt l its.toArray n none #[] (.int i t) (fun y=>match y with | .int k _=>k == i | _=>false) j (by rw [ky];lia) (by lia) ?_ ?_) ⟨e,?_,?_⟩
 ·obtain ⟨k,tk,e1,e2⟩:=at_ j (by rw [ky];lia)
  rw [e2]
  rw [hj] at e1
  cases e1
  simp
 ·intro m hm hlt
  obtain ⟨k,tk,e1,e2⟩:=at_ m hm
  rw [e2]
  have:=hno m hlt
  rw [e1] at this
  simpa using fun z=>this (by rw [z])
 ·intro y hy
  obtain ⟨m,hm,rfl⟩:=Array.mem_iff_getElem.mp hy
  obtain ⟨k,tk,e1,e2⟩:=at_ m hm
  rw [e2]
  exact SeqAt.EqAt.int_int _ _ _ _
 ·exact ⟨.int (j:Nat),H,I.tok _,⟨_,rfl⟩,q⟩
def z2a (ta:TA):TE:=fun σ H Q=>ta σ H fun vs H1=>∃n:Nat,vs=[.int (n:Nat)]∧n≤1000∧∀l,H1 l=none→Q (.ref l) (upd H1 l (.lst (((List.range n).map fun i:Nat=>(i:Int)).map V.int)))
theorem jc {a:Expr} {ta:TA} {p p2 pos pos2:Pos} (hc:X.calm=true) (hl:Gl X "list") (hml:X.mg "list"=none) (hg:Gl X "range") (hm:X.mg "range"=none) (ha:PA X [a] ta)
  (hs:autoParam (starEach [a] X.env=[(false,eval a X.env)]) aR._auto_1) (hs2:autoParam (starEach [.Call (.Name "range" p2) [a] [] pos2] X.env=[(false,eval (.Call (.Name "range" p2) [a] [] pos2) X.env)]) aR._auto_1):
  PE X (.Call (.Name "list" p) [.Call (.Name "range" p2) [a] [] pos2] [] pos) (z2a ta):=by
 intro pins s σ H Q I h
 refine wpAny_Call_Name_kw (jP I hl hml (show bootBuiltins "list"=some (.type "list") by trivial) ?_ (by decide) (by decide))
 refine PyProof.Rows.callWith_type1 ?_ hs2 rfl
 rw [hs2]
 show wpAny _ _ (spliced ((false,eval (.Call (.Name "range" p2) [a] [] pos2) X.env) :: [])) _ _ s
 refine Calls.spliced_cons ?_
 refine Call_ (jP I hg hm boot_range (PyProof.Rows.callWith_type1 (thn (ha pos2 pins s σ H _ I h) fun us s1 ⟨vs,H1,I1,r1,q1⟩=>?_) hs rfl))
 obtain ⟨n,e,hn,q⟩:=q1
 subst e
 cases r1 with
 | cons r rr=>
  cases rr
  obtain ⟨t,rfl⟩:=r
  refine call_range_1 ?_
  refine Calls.spliced_nil ?_
  have I2:Inv X pins σ H1 { s1 with heap:=s1.heap.push { cls:=.type "range",data:=.fields #[.int 0 s1.toks,.int (n:Nat) t,.int 1 (s1.toks+1)] },toks:=s1.toks+1+1 }:=I1.kept fun b o e=>Heap.get?_push_of_some _ e
  refine call_list_range (s:={ s1 with heap:=s1.heap.push { cls:=.type "range",data:=.fields #[.int 0 s1.toks,.int (n:Nat) t,.int 1 (s1.toks+1)] },toks:=s1.toks+1+1 }) (n:=n) (I.ok.hd hc) (IsRange.new ..) (small_one (by lia) (by lia) (by lia) (by lia)) ?_ (by lia) fun h' tk acc' c' hk hS hacc=>?_
  ·rw [rangeSize_one];split <;> lia
  have hlen:acc'.toList.length=((List.range n).map fun i:Nat=>(i:Int)).length:=by
   rw [Array.length_toList,hacc.1,kg,List.length_range]
  have rv:Vals (((List.range n).map fun i:Nat=>(i:Int)).map V.int) acc'.toList:=Za hlen fun j v e=>by
   have hj:j < n:=by
    have:=(kd.mp e).1
    rw [hlen,kg,List.length_range] at this
    exact this
   obtain ⟨t,e2⟩:=hacc.2 j v (by simpa using e)
   refine ⟨t,(j:Int),by simp [hj],?_⟩
   rw [e2]
   congr 1
   lia
  have hz:(((List.range n).map fun i:Nat=>(i:Int)).map V.int).length≤sizeLine:=by
   rw [kg,kg,List.length_range,sizeLine_eq]
   lia
  refine ⟨.ref _,_,I2.laid (t':=tk) hk (kc _) (show zN X.prog X.w _ _ _ (.lst (((List.range n).map fun i:Nat=>(i:Int)).map V.int)) from ⟨hz,acc'.toList,c',rv,?_⟩),rfl,q _ (I2.hok.fresh (kc _))⟩
  rw [hS]
theorem z1Y (hc:X.calm=true):Zx X (.builtin "max") (fun xs H Q=>∃(l:Addr) (ns:List Int),xs=[.ref l]∧SqL X.K H l (ns.map V.int)∧0 < ns.length∧∀M,M∈ns→(∀a,a∈ns→a≤M)→Q (.int M) H):=by
 intro pins s σ H xs us Q I r h
 obtain ⟨l,ns,rfl,hl,hz,q⟩:=h
 obtain ⟨u,rfl,ru⟩:=JX r
 obtain rfl:u=Value.ref l:=ru
 obtain ⟨its,rv,pl,_⟩:=I.list hl
 have ia:=ZJ rv
 obtain ⟨ys,hys⟩:=ia.allInts.items
 have hn:ys.toList.map (·.1)=ns:=by
  rw [←nums_intItems,←hys,←ia.numsOf]
 have hsz:ys.size=ns.length:=by rw [←hn,kg,Array.length_toList]
 refine max_intList (I.ok.hd hc) (by rw [←hys];exact pl.isList) (by lia) fun v h' tk hv hk=>?_
 obtain ⟨t,rfl⟩:=intItems_at hv
 obtain ⟨h1,h2⟩:=argBest_gt (numAt ys) (ys.size - 1)
 refine ⟨.int _,H,I.kept hk,⟨_,rfl⟩,q _ ?_ fun a ha=>?_⟩
 ·rw [numAt_eq,hn];exact PySem.getD_mem (by lia)
 ·obtain ⟨j,hj,rfl⟩:=mem_getD ha
  have:=h2 j (by lia)
  rw [numAt_eq ys j,hn] at this
  exact this
end
end L2
namespace L2
open PySem PySem.Spec PyProof.Rows
theorem Inv.turnedL {X:Cx} {pins:List (Addr × Obj)} {σ:St} {H:Hp} {s:Shared} {h':Heap} {t':Nat} {es:List Addr} {xs:List V} (I:Inv X pins σ H s) (k:∀b o,b∉es→s.heap.get? b=some o→h'.get? b=some o)
  (fe:∀b∈es,FpOk X pins H b) (new:zN X.prog X.w (upd H s.heap.objs.size (.tup xs)) h' s.heap.objs.size (.tup xs)):
  Inv X pins σ (upd H s.heap.objs.size (.tup xs)) { s with heap:=h',toks:=t' }:=by
 have hn:=I.fresh
 have nit:∀b u,H b=some u→b∉es:=fun b u q z=>by have:=(fe b z).1;rw [this] at q;cases q
 refine I.step (g':=s.gens) (d':=s.drawn) (ch:=es) (fun b hb=>?_) (fun b o _ _ hc q _=>k b o hc q) (fun b o _ _ hc q _=>⟨o.slots,k b o hc q⟩) (fun b o _ q n=>?_)
  (fun b o hc q=>⟨o,k b o hc q⟩) (fun b xs q=>by rw [zc (z8 q hn)];exact q) (fun b o u q=>by rw [zc (z8 q hn)];exact q) (fun b ps q=>⟨#[],by rw [zc (z8 q hn),q];simp⟩) (fun m hm'=>?_) (fun b u q=>?_) I.bare
 ·have f:=fe b hb
  exact ⟨f.2.2.2.1,f.2.1,f.2.2.2.2.1,f.2.2.2.2.2⟩
 ·rw [zc (Nat.ne_of_lt (Heap.lt_size q))];exact n
 ·obtain ⟨o,es',ep,ho,r⟩:=hm'
  exact ⟨o,es',ep,k _ o (fun z=>(fe _ z).2.1 rfl) ho,r⟩
 ·by_cases hb:b=s.heap.objs.size
  ·subst hb;rw [z6] at q;cases q;exact new
  ·rw [zc hb] at q
   refine (I.hok b u q).stay (fun c v hc z=>?_) (fun c z=>by rw [zc (z8 z hn)];exact z) fun c xs z=>by rw [zc (z8 z hn)];exact z
   rcases hc with y | y
   ·subst y;exact k c v (nit c u q) z
   ·exact k c v (nit c _ y) z
theorem Inv.turnedE {X:Cx} {pins:List (Addr × Obj)} {σ:St} {H:Hp} {s:Shared} {h':Heap} {t':Nat} {es:List Addr} (I:Inv X pins σ H s) (k:∀b o,b∉es→s.heap.get? b=some o→h'.get? b=some o)
  (fe:∀b∈es,FpOk X pins H b):Inv X pins σ H { s with heap:=h',toks:=t' }:=by
 have nit:∀b u,H b=some u→b∉es:=fun b u q z=>by have:=(fe b z).1;rw [this] at q;cases q
 refine I.step (g':=s.gens) (d':=s.drawn) (ch:=es) (fun b hb=>?_) (fun b o _ _ hc q _=>k b o hc q) (fun b o _ _ hc q _=>⟨o.slots,k b o hc q⟩) (fun _ _ _ _ n=>n)
  (fun b o hc q=>⟨o,k b o hc q⟩) (fun _ _ e=>e) (fun _ _ _ e=>e) (fun b ps e=>⟨#[],by rw [e];simp⟩) (fun m hm'=>?_) (fun b u q=>?_) I.bare
 ·have f:=fe b hb
  exact ⟨f.2.2.2.1,f.2.1,f.2.2.2.2.1,f.2.2.2.2.2⟩
 ·obtain ⟨o,es',ep,ho,r⟩:=hm'
  exact ⟨o,es',ep,k _ o (fun z=>(fe _ z).2.1 rfl) ho,r⟩
 ·refine (I.hok b u q).stay (fun c v hc z=>?_) (fun _ z=>z) fun _ _ z=>z
  rcases hc with y | y
  ·subst y;exact k c v (nit c u q) z
  ·exact k c v (nit c _ y) z
noncomputable def Itz (K:ko) (a b:Addr):It:=
 ⟨fun i H=>∃xs ys x y,SqL K H a xs∧SqL K H b ys∧xs[i]?=some x∧ys[i]?=some y,fun i H x H'=>∃p y z,x=.ref p∧H p=none∧H'=upd H p (.tup [y,z])∧(∀xs,SqL K H a xs→xs[i]?=some y)∧∀ys,SqL K H b ys→ys[i]?=some z,
  fun i H=>∃xs ys,SqL K H a xs∧SqL K H b ys∧(xs.length≤i∨ys.length≤i)⟩
theorem z27 {P:Program} {w:World} {K:ko} {elts:List Expr} {x1} {pos:Pos} (a b z TI TO i1 i2:Addr) (D:ZipApart z TI TO i1 i2 a b):
  Turn P w K (.Tuple elts x1 pos) (Itz K a b) [z,TI,TO,i1,i2] z (fun i h=>IsZip h z TI TO .none∧IsPair h TI (.ref i1) (.ref i2)∧(∃u v,IsPair h TO u v)∧h.IsListIter i1 a i∧h.IsListIter i2 b i) where
 mem:=by simp
 obj:=fun i h st c hc=>by
  obtain ⟨q1,q2,⟨u,v,q3⟩,⟨o4,q4,c4,d4⟩,⟨o5,q5,c5,d5⟩⟩:=st
  simp only [kx,kl,or_false] at hc
  rcases hc with rfl | rfl | rfl | rfl | rfl
  ·exact ⟨_,q1,fun v y=>by cases y⟩
  ·exact ⟨_,q2,fun v y=>by cases y⟩
  ·exact ⟨_,q3,fun v y=>by cases y⟩
  ·exact ⟨_,q4,fun v y=>by rw [d4] at y;cases y⟩
  ·exact ⟨_,q5,fun v y=>by rw [d5] at y;cases y⟩
 keep:=fun i h h' st k=>by
  obtain ⟨q1,q2,⟨u,v,q3⟩,q4,q5⟩:=st
  exact ⟨k z (by simp) _ q1,k TI (by simp) _ q2,⟨u,v,k TO (by simp) _ q3⟩,q4.at fun o q=>k i1 (by simp) o q,q5.at fun o q=>k i2 (by simp) o q⟩
 item:=by
  intro X hP hw hK hc i pins s σ H E I hf st hg
  subst hP hw hK
  obtain ⟨xs,ys,x,y,hq1,hq2,hx,hy⟩:=hg
  obtain ⟨its1,rv1,p1,hz1⟩:=I.list hq1
  obtain ⟨u1,hu1,ru1⟩:=rv1.get hx
  obtain ⟨its2,rv2,p2,hz2⟩:=I.list hq2
  obtain ⟨u2,hu2,ru2⟩:=rv2.get hy
  obtain ⟨q1,q2,⟨a',b',q3⟩,q4,q5⟩:=st
  refine wpAny_pyNext_zip_item D q1 q2 q3 q4 q5 p1.isList p2.isList (x:=u1) (y:=u2) (by simpa using hu1) (by simpa using hu2) fun h' g1 g2 g3 g4 g5 g6 g7=>?_
  refine ⟨_,rfl,?_⟩
  have new:zN X.prog X.w (upd H s.heap.objs.size (.tup [x,y])) h' s.heap.objs.size (.tup [x,y]):=⟨by show 2≤sizeLine;decide,[u1,u2],.cons ru1 (.cons ru2 .nil),_,g5,rfl,_,rfl⟩
  have hk:∀b o,b∉[z,TI,TO,i1,i2]→s.heap.get? b=some o→h'.get? b=some o:=fun b o hb e=>g7 b o (fun y=>hb (by simp [y])) (fun y=>hb (by simp [y])) (fun y=>hb (by simp [y])) (fun y=>hb (by simp [y])) e
  have I1:Inv X pins σ (upd H s.heap.objs.size (.tup [x,y])) { s with heap:=h',toks:=s.toks }:=I.turnedL hk hf new
  have q2':IsPair h' TI (.ref i1) (.ref i2):=g7 _ _ D.TIz D.TITO D.TIi1 D.TIi2 q2
  refine wpAny_letOwnedTupleGo_zip (s:={ s with heap:=h' }) g1 fun h2 he2 hs2=>?_
  have lt:∀c∈[z,TI,TO,i1,i2],c≠s.heap.objs.size:=fun c hc e=>by
   have:∃o,s.heap.get? c=some o:=by
    simp only [kx,kl,or_false] at hc
    rcases hc with rfl | rfl | rfl | rfl | rfl
    ·exact ⟨_,q1⟩
    ·exact ⟨_,q2⟩
    ·exact ⟨_,q3⟩
    ·exact ⟨_,q4.choose_spec.1⟩
    ·exact ⟨_,q5.choose_spec.1⟩
   obtain ⟨o,ho⟩:=this
   have:=Heap.lt_size ho
   rw [e] at this
   exact Nat.lt_irrefl _ this
  have fz:=hf z (by simp)
  refine ⟨.ref s.heap.objs.size,_,I1.turned (t':=s.toks) (it:=z) (fun b o hb q=>(hs2.2 b hb).trans q) (by rw [zc (lt z (by simp))];exact fz.1) fz.2.1 fz.2.2.2.1 fz.2.2.2.2.1 fz.2.2.2.2.2,rfl,
   ⟨_,x,y,rfl,I.fresh,rfl,fun zs h=>by rw [I.list_inj h hq1];exact hx,fun zs h=>by rw [I.list_inj h hq2];exact hy⟩,⟨he2,(hs2.2 TI D.TIz).trans q2',⟨_,_,(hs2.2 TO D.TOz).trans g2⟩,g3.at fun o q=>(hs2.2 i1 D.i1z).trans q,g4.at fun o q=>(hs2.2 i2 D.i2z).trans q⟩,fun b hb=>?_⟩
  rw [zc (lt b hb)]
  exact (hf b hb).1
 done:=by
  intro X hP hw hK hc i pins s σ H E I hf st hg
  subst hP hw hK
  obtain ⟨xs,ys,hq1,hq2,hend⟩:=hg
  obtain ⟨its1,rv1,p1,hz1⟩:=I.list hq1
  obtain ⟨its2,rv2,p2,hz2⟩:=I.list hq2
  obtain ⟨q1,q2,⟨a',b',q3⟩,q4,q5⟩:=st
  have l1:=rv1.length
  have l2:=rv2.length
  exact wpAny_pyNext_zip_end (I.ok.hd hc) D q1 q2 q3 q4 q5 p1.isList p2.isList (by simp;lia) fun h' hk=>⟨rfl,I.turnedE (t':=s.toks) (fun b o hb e=>hk b o (fun y=>hb (by simp [y])) (fun y=>hb (by simp [y])) (fun y=>hb (by simp [y])) (fun y=>hb (by simp [y])) e) hf⟩
 self:=fun _ _ _ _ _ st h=>wpAny_pyIter_zip st.1 h
theorem z0v {n l1 l2:Nat} (h1:l1 < n) (h2:l2 < n):ZipApart (n+4) (n+2) (n+3) n (n+1) l1 l2:=by
 constructor
 all_goals (show ¬((_:Nat)=_);lia)
theorem z2Y:bootBuiltins "zip"=some (.type "zip"):=by trivial
section
variable {X:Cx}
def iZip (K:ko) (ta:TA):TI:=fun σ H R=>ta σ H fun vs H1=>∃a b,vs=[.ref a,.ref b]∧(∃xs,SqL K H1 a xs)∧(∃ys,SqL K H1 b ys)∧R (Itz K a b) H1
theorem z4I {a b:Expr} {ta:TA} {p pos:Pos} {elts:List Expr} {x1} {tp:Pos} (hg:Gl X "zip") (hm:X.mg "zip"=none) (ha:PA X [a,b] ta) (hs:autoParam (starEach [a,b] X.env=[(false,eval a X.env),(false,eval b X.env)]) aR._auto_1) (hs2:autoParam (starEach [b] X.env=[(false,eval b X.env)]) aR._auto_1):PI X (.Tuple elts x1 tp) (.Call (.Name "zip" p) [a,b] [] pos) (iZip X.K ta):=by
 intro pins s σ H R I h
 refine Call_ (jP I hg hm z2Y (PyProof.Rows.callWith_type1 (thn (ha pos pins s σ H _ I h) fun us s1 ⟨vs,H1,I1,r1,q1⟩=>?_) (by rw [hs,hs2]) (by rw [hs2];rfl)))
 obtain ⟨l1,l2,e,⟨xs,hq1⟩,⟨ys,hq2⟩,q⟩:=q1
 subst e
 obtain ⟨u1,u2,rfl,ru1,ru2⟩:=Vals.two r1
 cases ru1
 cases ru2
 obtain ⟨its1,rv1,p1,hz1⟩:=I1.list hq1
 obtain ⟨its2,rv2,p2,hz2⟩:=I1.list hq2
 have lt1:l1 < s1.heap.objs.size:=by obtain ⟨o,ho,_⟩:=p1.isList;exact Heap.lt_size ho
 have lt2:l2 < s1.heap.objs.size:=by obtain ⟨o,ho,_⟩:=p2.isList;exact Heap.lt_size ho
 refine call_zip_2 p1.isList p2.isList fun h' g1 g2 g3 g4 g5 g6 hk=>?_
 refine wpAny_pyIter_zip (s:={ s1 with heap:=h' }) g1 ?_
 have I2:Inv X pins σ H1 { s1 with heap:=h' }:=I1.kept (t':=s1.toks) hk
 have D:ZipApart (s1.heap.objs.size+4) (s1.heap.objs.size+2) (s1.heap.objs.size+3) s1.heap.objs.size (s1.heap.objs.size+1) l1 l2:=z0v lt1 lt2
 refine ⟨s1.heap.objs.size+4,[s1.heap.objs.size+4,s1.heap.objs.size+2,s1.heap.objs.size+3,s1.heap.objs.size,s1.heap.objs.size+1],_,_,H1,rfl,I2,z27 l1 l2 _ _ _ _ _ D,⟨g1,g2,⟨_,_,g3⟩,g4,g5⟩,fun b hb=>?_,q⟩
 have hb:s1.heap.objs.size≤b:=by
  simp only [kx,kl,or_false] at hb
  rcases hb with rfl | rfl | rfl | rfl | rfl
  ·exact Nat.le_add_right _ _
  ·exact Nat.le_add_right _ _
  ·exact Nat.le_add_right _ _
  ·exact kc _
  ·exact Nat.le_add_right _ _
 exact I1.fpOk hb (I1.hok.fresh hb)
end
end L2
namespace L2
open PySem PySem.Spec PyProof.Rows
section
variable {X:Cx}
end
end L2
namespace L2
open PySem PySem.Spec PyProof.Rows
section
variable {X:Cx}
end
end L2
namespace L2
open PySem PySem.Spec PyProof.Rows
theorem z0R {A:Around} {s:Shared} {x:V} {u u':Value} (r:RelV x u) (r':RelV x u') (f:qI x=true):SeqAt.EqAt A s u u' true:=by
 cases x with
 | non=>cases r;cases r';exact SeqAt.EqAt.same _
 | bl b=>cases r;cases r';exact SeqAt.EqAt.same _
 | int i=>
  obtain ⟨t,rfl⟩:=r
  obtain ⟨t',rfl⟩:=r'
  have:=SeqAt.EqAt.int_int (A:=A) (s:=s) i t i t'
  rw [beq_self_eq_true] at this
  exact this
 | str z=>
  obtain ⟨t,rfl⟩:=r
  obtain ⟨t',rfl⟩:=r'
  have:=SeqAt.EqAt.str_str (A:=A) (s:=s) z t z t'
  rw [beq_self_eq_true] at this
  exact this
 | _=>cases f
abbrev qf (H:Hp):List Addr→List (List V)→Prop:=Paired fun a xs=>H a=some (.tup xs)
theorem qf.get {H:Hp}:∀{as:List Addr} {ts:List (List V)} {i:Nat} {a:Addr},qf H as ts→as[i]?=some a→∃xs,ts[i]?=some xs∧H a=some (.tup xs)
 | _,_,_,_,.nil,e=>by simp at e
 | _,_,0,_,.cons h _,e=>by
  simp at e
  subst e
  exact ⟨_,rfl,h⟩
 | _,_,i+1,_,.cons _ t,e=>by
  obtain ⟨xs,h1,h2⟩:=qf.get (i:=i) t (by simpa using e)
  exact ⟨xs,by simpa using h1,h2⟩
def z4G (K:ko):R2:=fun x y H Q=>∃(p q:Addr) (as bs:List Addr) (ts:List (List V)),x=.ref p∧y=.ref q∧SqL K H p (as.map V.ref)∧SqL K H q (bs.map V.ref)∧qf H as ts∧qf H bs ts∧(∀xs∈ts,xs.all qI=true)∧Q (.bl true) H
section
variable {X:Cx}
theorem z3S (hu:X.A.units+3 < cLine):OpR X (compareOp .Eq) (z4G X.K):=by
 intro pins s σ H x y v u Q I rx ry h
 obtain ⟨p,q,as,bs,ts,rfl,rfl,sa,sb,ha,hb,hf,hq⟩:=h
 cases rx
 cases ry
 obtain ⟨its,r,pl,_⟩:=I.list sa
 obtain ⟨its2,r2,pl2,_⟩:=I.list sb
 have e1:=Qg r
 have e2:=Qg r2
 subst e1
 subst e2
 have la:as.length=ts.length:=Paired.length ha
 have lb:bs.length=ts.length:=Paired.length hb
 refine SeqAt.eq_listAt (e:=fun _=>true) pl.isList pl2.isList (by simp;lia) (by lia) (fun j g1 g2=>?_) ⟨.bl _,H,I,rfl,?_⟩
 ·have g1:j < as.length:=by simpa using g1
  have g2:j < bs.length:=by simpa using g2
  have main:SeqAt.EqAt X.A.in1 s (.ref as[j]) (.ref bs[j]) true:=by
   obtain ⟨xs,t1,h1⟩:=ha.get (kE g1)
   obtain ⟨xs',t2,h2⟩:=hb.get (kE g2)
   rw [t1] at t2
   cases t2
   by_cases hne:as[j]=bs[j]
   ·rw [hne]
    exact SeqAt.EqAt.same _
   ·obtain ⟨its,r,pl,_⟩:=I.tuple (SqT.of h1)
    obtain ⟨its2,r2,pl2,_⟩:=I.tuple (SqT.of h2)
    refine SeqAt.EqAt.of_refs hne ?_
    have l1:=r.length
    have l2:=r2.length
    have T:=SeqAt.RcAt.tuples (A:=X.A.in1) (s:=s) (e:=fun _=>true) pl pl2 (show X.A.units+1 < cLine by lia) (fun k g1 g2=>by
     have g1:k < its.length:=by simpa using g1
     have g2:k < its2.length:=by simpa using g2
     have gx:k < xs.length:=by lia
     obtain ⟨u1,q1,ru1⟩:=r.get (kE gx)
     obtain ⟨u2,q2,ru2⟩:=r2.get (kE gx)
     have f1:its.toArray[k]=u1:=by
      have:=kE g1
      rw [q1] at this
      simpa using (ku this).symm
     have f2:its2.toArray[k]=u2:=by
      have:=kE g2
      rw [q2] at this
      simpa using (ku this).symm
     rw [f1,f2]
     exact z0R ru1 ru2 (List.all_eq_true.mp (hf xs (kA t1)) _ (List.getElem_mem gx)))
    rw [List.all_eq_true.mpr fun _ _=>rfl] at T
    have es:(its.toArray.size == its2.toArray.size)=true:=by simp;lia
    rw [es] at T
    exact T
  simpa using main
 ·rw [List.all_eq_true.mpr fun _ _=>rfl]
  exact hq
end
theorem z0P {X:Cx} {K:ko} (hK:X.K=K):SlR X (rSlT K):=by subst hK;exact z3f
end L2
theorem zU0 {C:List PySem.Value→Prop} (h:C []):∀us:List PySem.Value,us.length=0→C us:=by
 intro us hl
 cases us with
 | nil=>exact h
 | cons a t=>exact absurd hl (Nat.succ_ne_zero _)
theorem zU1 {C:List PySem.Value→Prop} (h:∀a,C [a]):∀us:List PySem.Value,us.length=1→C us:=by
 intro us hl
 cases us with
 | nil=>exact absurd hl.symm (Nat.succ_ne_zero _)
 | cons a t=>exact zU0 (C:=fun t=>C (a :: t)) (h a) t (Nat.succ.inj hl)
theorem zU2 {C:List PySem.Value→Prop} (h:∀a b,C [a,b]):∀us:List PySem.Value,us.length=2→C us:=by
 intro us hl
 cases us with
 | nil=>exact absurd hl.symm (Nat.succ_ne_zero _)
 | cons a t=>exact zU1 (C:=fun t=>C (a :: t)) (h a) t (Nat.succ.inj hl)
theorem zU3 {C:List PySem.Value→Prop} (h:∀a b c,C [a,b,c]):∀us:List PySem.Value,us.length=3→C us:=by
 intro us hl
 cases us with
 | nil=>exact absurd hl.symm (Nat.succ_ne_zero _)
 | cons a t=>exact zU2 (C:=fun t=>C (a :: t)) (h a) t (Nat.succ.inj hl)
theorem zU4 {C:List PySem.Value→Prop} (h:∀a b c d,C [a,b,c,d]):∀us:List PySem.Value,us.length=4→C us:=by
 intro us hl
 cases us with
 | nil=>exact absurd hl.symm (Nat.succ_ne_zero _)
 | cons a t=>exact zU3 (C:=fun t=>C (a :: t)) (h a) t (Nat.succ.inj hl)
theorem zU5 {C:List PySem.Value→Prop} (h:∀a b c d e,C [a,b,c,d,e]):∀us:List PySem.Value,us.length=5→C us:=by
 intro us hl
 cases us with
 | nil=>exact absurd hl.symm (Nat.succ_ne_zero _)
 | cons a t=>exact zU4 (C:=fun t=>C (a :: t)) (h a) t (Nat.succ.inj hl)
namespace My
open PySem PySem.Spec PyProof.Rows L2
variable {P:Program} {w:World} {K:ko} {mg:Str→Option Value} {base:Heap}
theorem fsM {N P:List Str} {sc:Scope} (a:autoParam (sc.kind=.function) aR._auto_1) (b:autoParam (sc.isCoroutine=false) aR._auto_1) (c:autoParam (sc.isGenerator=false) aR._auto_1) (d:N.Nodup:=by trivial) (e:autoParam (N.take P.length=P) aR._auto_1)
  (f:∀x∈P,sc.names.lookup x=some .local∨sc.names.lookup x=some .cell:=by trivial) (g:∀y∈sc.names,y.2≠.free:=by trivial):zh N P sc:=⟨a,b,c,d,e,f,g⟩
theorem Qr {X:Cx} {o e:Expr} {es:List Expr} {to:TE} {t:TA} {apos cpos:Pos} (ho:PE X o to) (ha:PA X (e :: es) t) (hbase:autoParam (attributeBase o "append" X.env (eval o X.env)=eval o X.env) aR._auto_1)
  (hfew:autoParam (((backTo cpos (starEach (e :: es) X.env)).all (fun x=> !x.1)&&(backToKw cpos (keywordEach [] X.env)).all (fun x=>x.1.isSome)&&decide ((e :: es).length+([]:List Keyword).length+(if ([]:List Keyword).isEmpty then 0 else 1) < 30))=true) aR._auto_1)
  (hline:autoParam ((apos.endLine == cpos.line)=true) aR._auto_1) (hs:autoParam (starEach (e :: es) X.env=(false,eval e X.env) :: starEach es X.env) aR._auto_1) (hplain:autoParam ((backTo cpos (starEach es X.env)).any (·.1)=false) aR._auto_1):PE X (.Call (.Attribute o "append" apos) (e :: es) [] cpos) (tBM X.K "list" J4 to t):=ZY PySem.F.plainAttrs_list PySem.F.slot_list_append PySem.F.type_list_append qM ho ha hbase hfew hline hs hplain
noncomputable def top (i:Nat):Stmt:=PySem.Challenge.pw_codemill_k57_whole_nothing_to_swap.main.body.getD i (.Pass ⟨0,0,0,0⟩)
def FN (P:Program) (w:World) (K:ko) (mg:Str→Option Value) (base:Heap) (k:Nat) (name:Str) (ps:List Str) (sp:Sp):Prop:=
 ∃f fd,mg name=some (.ref f)∧PySem.W.keepIn K (.ref f)=true∧ZB K fd ps []∧FnOk P w K mg base CX0 k f fd ps sp
def zo (K:ko) (mg:Str→Option Value) (name:Str) (st:Stmt):Prop:=∃f fd,Fun K name name st f fd∧mg name=some (.ref f)
section
theorem FN.imp {k:Nat} {name:Str} {ps:List Str} {sp sp':Sp} (F:FN P w K mg base k name ps sp) (h:∀vs H Q E,sp' vs H Q E→sp vs H Q E):FN P w K mg base k name ps sp':=by
 obtain ⟨f,fd,a,b,c,d⟩:=F
 exact ⟨f,fd,a,b,c,d.imp h⟩
theorem FN.of {name:Str} {st:Stmt} {N ps:List Str} {sp:Sp} {k:Nat} (D:zo K mg name st) (S:zh N ps (zd st))
  (hb:∀(kV doc pm:Value) (an:Option Addr) (cdv ct:Value) (us:List Value),us.length=ps.length→bindArgs (PySem.W.fnOf name name (zX st) (zH st) (zd st) .none kV doc pm an cdv ct) ⟨us,[]⟩=pure (ps.zip us))
  (len:∀vs H Q E,sp vs H Q E→vs.length=ps.length)
  (hbody:∀(f:Addr) (cdv:Value) (A:Around) (outer:List Env) (s:Shared) (H:Hp) (vs:List V) (Q:VK) (E:XK),Room k (A.deeper (envOfC name (zd st) s.heap.objs.size f cdv))→sp vs H Q E→
   ∃t,PSs (cxOf CX0 P w K mg base N name (zd st) f cdv A outer s H E).nox (zH st) t∧t { nx:=fun _ H'=>Q .non H',rt:=Q } (jh N vs) H):FN P w K mg base (k+1) name ps sp:=by
 obtain ⟨f,fd,F,m⟩:=D
 exact ⟨f,fd,m,F.kp,F.binds hb,F.ok S len (hbody f)⟩
theorem FN.o {name:Str} {st:Stmt} {N ps:List Str} {sp:Sp} {k:Nat} (D:zo K mg name st) (S:zh N ps (zd st))
  (hbody:∀(f:Addr) (cdv:Value) (A:Around) (outer:List Env) (s:Shared) (H:Hp) (vs:List V) (Q:VK) (E:XK),Room k (A.deeper (envOfC name (zd st) s.heap.objs.size f cdv))→sp vs H Q E→
   ∃t,PSs (cxOf CX0 P w K mg base N name (zd st) f cdv A outer s H E).nox (zH st) t∧t { nx:=fun _ H'=>Q .non H',rt:=Q } (jh N vs) H)
  (hb:∀(kV doc pm:Value) (an:Option Addr) (cdv ct:Value) (us:List Value),us.length=ps.length→bindArgs (PySem.W.fnOf name name (zX st) (zH st) (zd st) .none kV doc pm an cdv ct) ⟨us,[]⟩=pure (ps.zip us):=by (first | exact fun _ _ _ _ _ _=>zU1 fun _=>rfl | exact fun _ _ _ _ _ _=>zU2 fun _ _=>rfl | exact fun _ _ _ _ _ _=>zU3 fun _ _ _=>rfl | exact fun _ _ _ _ _ _=>zU4 fun _ _ _ _=>rfl | exact fun _ _ _ _ _ _=>zU5 fun _ _ _ _ _=>rfl))
  (len:∀vs H Q E,sp vs H Q E→vs.length=ps.length:=by (intro vs H Q E h;repeat (first | (obtain ⟨e,_⟩:=h;subst e;rfl) | (obtain ⟨_,h⟩:=h)))):FN P w K mg base (k+1) name ps sp:=FN.of D S hb len hbody
end
section
variable {X:Cx} {k:Nat} {name:Str} {ps:List Str} {sp:Sp} {p pos:Pos} {e:Expr} {es:List Expr} {t:TA}
theorem zt (F:FN X.prog X.w X.K X.mg X.base k name ps sp) (hr:Room k X.A) (hg:Gl X name) (ha:PA X (e :: es) t) (hdb:autoParam ((name == ("__debug__":Str))=false) aR._auto_2)
  (he:autoParam (starEach (e :: es) X.env=(false,eval e X.env) :: starEach es X.env) aR._auto_1) (hpl:autoParam ((backTo pos (starEach es X.env)).any (·.1)=false) aR._auto_1):
  PE X (.Call (.Name name p) (e :: es) [] pos) (z2b sp [] E0 t):=by
 obtain ⟨f,fd,a,b,c,d⟩:=F
 exact z18 d hr hg a b c .nil z3Q ha hdb he hpl
end
inductive Scal:V→Prop where
 | non:Scal .non
 | bl (b:Bool):Scal (.bl b)
 | int (i:Int):Scal (.int i)
 | str (s:Str) (h:s.length≤sizeLine):Scal (.str s)
noncomputable def z2x:V→Bool
 | .int _=>true
 | _=>false
noncomputable def isB:V→Bool
 | .bl _=>true
 | _=>false
noncomputable def isS:V→Bool
 | .str _=>true
 | _=>false
noncomputable def zS (x:V) (lo hi:Int):Bool:=match x with
 | .int i=>decide (lo≤i)&&decide (i≤hi)
 | _=>false
noncomputable def j8 (x:V) (most:Int):Bool:=match x with
 | .str s=>decide ((1:Int)≤(s.length:Int))&&decide ((s.length:Int)≤most)&&Txt.isascii s&&Txt.isalpha s
 | _=>false
noncomputable def low:V→Bool
 | .str s=>Txt.islower s
 | _=>false
noncomputable def z2r (x:V):Bool:=j8 x 4&&low x
noncomputable def z1m (x:V):Bool:=j8 x 8
noncomputable def z2t (x:V):Bool:=zS x 0 99
noncomputable def z0w (x:V) (most:Int):Bool:=decide (x=.non)||isB x||zS x (-most) most||z1m x
noncomputable def jG (x:V):Bool:=z0w x 1000000000
noncomputable def Qd (x:V):Bool:=zS x 1 9
noncomputable def jZ (x:V):Bool:=zS x 2 9
noncomputable def z1f (x:V):Bool:=decide (x=.non)
noncomputable def jF:List (Str × Str):=[("push","value"),("load","name"),("quick","name"),("store","name"),("clear","name"),("copy","copied"),("swap","swapped"),("jump","mark"),("iftrue","mark"),("iffalse","mark"),("ortrue","mark"),("orfalse","mark"),("try","mark"),("label","mark"),("add","none"),("sub","none"),("mul","none"),("div","none"),("rest","none"),("less","none"),("same","none"),("neg","none"),("not","none"),("drop","none"),("tell","none"),("return","none"),("raise","none"),("endtry","none")]
noncomputable def zG (op:Str):Option Str:=jF.lookup op
noncomputable def jz (sort:Str) (x:V):Bool:=
 if sort="value" then jG x else if sort="name" then z2r x else if sort="copied" then Qd x else if sort="swapped" then jZ x else if sort="mark" then z2t x else z1f x
noncomputable def qP (op:Str) (x:V):Bool:=match zG op with
 | some s=>jz s x
 | none=>false
noncomputable def rowV (op:Str) (arg line:V):Bool:=(zG op).isSome&&qP op arg&&zS line 0 9999
structure Glo (mg:Str→Option Value):Prop where
 isinstance:mg "isinstance"=none
 int:mg "int"=none
 bool:mg "bool"=none
 str:mg "str"=none
 tuple:mg "tuple"=none
 list:mg "list"=none
 len:mg "len"=none
 range:mg "range"=none
 enumerate:mg "enumerate"=none
 rows:∃u,mg "MOST_ROWS"=some u∧RelV (.int 150) u
 line:∃u,mg "MOST_LINE"=some u∧RelV (.int 9999) u
 mark:∃u,mg "MOST_MARK"=some u∧RelV (.int 99) u
 pushed:∃u,mg "MOST_PUSHED"=some u∧RelV (.int 1000000000) u
 name:∃u,mg "LONGEST_NAME"=some u∧RelV (.int 4) u
 kind:∃u,mg "LONGEST_KIND"=some u∧RelV (.int 8) u
 all:mg "all"=none
 dict:mg "dict"=none
 max:mg "max"=none
 min:mg "min"=none
 abs:mg "abs"=none
theorem zB:bootBuiltins "isinstance"=some (.builtin "isinstance"):=by trivial
theorem z30:bootBuiltins "int"=some (.type "int"):=by trivial
theorem QO:bootBuiltins "bool"=some (.type "bool"):=by trivial
theorem JU:bootBuiltins "str"=some (.type "str"):=by trivial
theorem z0t:bootBuiltins "tuple"=some (.type "tuple"):=by trivial
theorem jA:bootBuiltins "list"=some (.type "list"):=by trivial
theorem zF:bootBuiltins "len"=some (.builtin "len"):=by trivial
theorem z2y {K:ko} {H:Hp} {x:V} (h:Scal x):∃t,TyOf K H x t∧PySem.W.kitOne K t (.type "int")=some (z2x x||isB x):=by
 cases h with
 | non=>exact ⟨_,.non,rfl⟩
 | bl b=>exact ⟨_,.bl b,rfl⟩
 | int i=>exact ⟨_,.int i,rfl⟩
 | str s _=>exact ⟨_,.str s,rfl⟩
theorem QD {K:ko} {H:Hp} {x:V} (h:Scal x):∃t,TyOf K H x t∧PySem.W.kitOne K t (.type "bool")=some (isB x):=by
 cases h with
 | non=>exact ⟨_,.non,rfl⟩
 | bl b=>exact ⟨_,.bl b,rfl⟩
 | int i=>exact ⟨_,.int i,rfl⟩
 | str s _=>exact ⟨_,.str s,rfl⟩
theorem JL {K:ko} {H:Hp} {x:V} (h:Scal x):∃t,TyOf K H x t∧PySem.W.kitOne K t (.type "str")=some (isS x):=by
 cases h with
 | non=>exact ⟨_,.non,rfl⟩
 | bl b=>exact ⟨_,.bl b,rfl⟩
 | int i=>exact ⟨_,.int i,rfl⟩
 | str s _=>exact ⟨_,.str s,rfl⟩
theorem z0e {K:ko} {H:Hp} {x:V} (h:Scal x):∃t,TyOf K H x t∧PySem.W.kitOne K t (.type "tuple")=some false:=by
 cases h with
 | non=>exact ⟨_,.non,rfl⟩
 | bl b=>exact ⟨_,.bl b,rfl⟩
 | int i=>exact ⟨_,.int i,rfl⟩
 | str s _=>exact ⟨_,.str s,rfl⟩
section
variable {X:Cx}
theorem Qp (T:String) {x:Str} {pos:Pos} (hg:Gl X x) (hm:X.mg x=none) (hv:bootBuiltins x=some (.type T)) (hn:autoParam (x≠"__name__") aR._auto_2) (hd:autoParam ((x == ("__debug__":Str))=false) aR._auto_2):PE X (.Name x pos) (tC (.ty T)):=z3P hg hm hv rfl hn hd
theorem qE {x:Str} {v:V} {pos:Pos} (hg:Gl X x) (hm:∃u,X.mg x=some u∧RelV v u) (hd:autoParam ((x == ("__debug__":Str))=false) aR._auto_2):PE X (.Name x pos) (tC v):=by
 obtain ⟨u,h1,h2⟩:=hm
 exact jH hg h1 h2 hd
end
section
def sp1 (f:V→Bool):Sp:=fun vs H Q _=>∃x,vs=[x]∧Scal x∧Q (.bl (f x)) H
theorem z5u {f:V→Bool} (vs:List V) (H:Hp) (Q:VK) (E:XK) (h:sp1 f vs H Q E):vs.length=1:=by
 obtain ⟨x,rfl,_⟩:=h
 rfl
theorem sc13:zh ["thing"] ["thing"] (zd (top 13)):=fsM
theorem QH (D:zo K mg "is_number" (top 13)) (G:Glo mg):FN P w K mg base 1 "is_number" ["thing"] (sp1 z2x):=by
 refine FN.o D sc13 fun f cdv A outer s H vs Q E hr h=>?_
 obtain ⟨x,rfl,hx,q⟩:=h
 refine ⟨_,ze (zi (qR (zl zR rfl G.isinstance zB (z0 (pv 0) (z0 (Qp "int" rfl G.int z30) z7)))
  (j5 (z4L (zl zR rfl G.isinstance zB (z0 (pv 0) (z0 (Qp "bool" rfl G.bool QO) z7))))))),?_⟩
 obtain ⟨t1,ty1,k1⟩:=z2y (K:=K) (H:=H) hx
 obtain ⟨t2,ty2,k2⟩:=QD (K:=K) (H:=H) hx
 refine ⟨_,rfl,_,"int",t1,_,rfl,ty1,k1,_,rfl,?_⟩
 cases hx with
 | non=>exact q
 | bl b=>exact ⟨_,rfl,_,"bool",t2,_,rfl,ty2,k2,_,rfl,q⟩
 | int i=>exact ⟨_,rfl,_,"bool",t2,_,rfl,ty2,k2,_,rfl,q⟩
 | str s _=>exact q
def jb:Sp:=fun vs H Q _=>∃x lo hi,vs=[x,.int lo,.int hi]∧Scal x∧Q (.bl (zS x lo hi)) H
theorem sc14:zh ["thing","low","high"] ["thing","low","high"] (zd (top 14)):=fsM
theorem z1z (D:zo K mg "is_number_within" (top 14)) (G:Glo mg) (F1:FN P w K mg base 1 "is_number" ["thing"] (sp1 z2x)):FN P w K mg base 2 "is_number_within" ["thing","low","high"] jb:=by
 refine FN.o D sc14 fun f cdv A outer s H vs Q E hr h=>?_
 obtain ⟨x,lo,hi,rfl,hx,q⟩:=h
 refine ⟨_,ze (zi (qR (zt F1 hr rfl (z0 (pv 0) z7)) (j5 (ZX Qs Qs (pv 1) (pv 0) (pv 2))))),?_⟩
 refine ⟨_,rfl,x,rfl,hx,_,rfl,?_⟩
 cases hx with
 | non=>exact q
 | bl b=>exact q
 | str s _=>exact q
 | int i=>
  refine ⟨_,rfl,_,rfl,_,_,rfl,rfl,_,rfl,?_⟩
  have q':Q (.bl (decide (lo≤i)&&decide (i≤hi))) H:=q
  refine ite2 (fun c=>?_) (fun c=>?_)
  ·rw [c,Bool.true_and] at q'
   exact ⟨_,rfl,_,_,rfl,rfl,q'⟩
  ·rw [Bool.eq_false_iff.mpr c,Bool.false_and] at q'
   exact q'
def Zc:Sp:=fun vs H Q _=>∃x most,vs=[x,.int most]∧Scal x∧Q (.bl (j8 x most)) H
theorem sc15:zh ["thing","most"] ["thing","most"] (zd (top 15)):=fsM
theorem z0j (D:zo K mg "is_letters" (top 15)) (G:Glo mg):FN P w K mg base 1 "is_letters" ["thing","most"] Zc:=by
 refine FN.o D sc15 fun f cdv A outer s H vs Q E hr h=>?_
 obtain ⟨x,most,rfl,hx,q⟩:=h
 refine ⟨_,ze (zi (qR (zl zR rfl G.isinstance zB (z0 (pv 0) (z0 (Qp "str" rfl G.str JU) z7)))
  (qR (ZX Qs Qs zf (zl QL rfl G.len zF (z0 (pv 0) z7)) (pv 1))
  (qR (z19 F.plainAttrs_str F.slot_str_isascii F.type_str_isascii z05 (pv 0))
  (j5 (z19 F.plainAttrs_str F.slot_str_isalpha F.type_str_isalpha z06 (pv 0))))))),?_⟩
 obtain ⟨t1,ty1,k1⟩:=JL (K:=K) (H:=H) hx
 refine ⟨_,rfl,_,"str",t1,_,rfl,ty1,k1,_,rfl,?_⟩
 cases hx with
 | non=>exact q
 | bl b=>exact q
 | int i=>exact q
 | str z hz=>
  have q':Q (.bl (decide ((1:Int)≤(z.length:Int))&&decide ((z.length:Int)≤most)&&Txt.isascii z&&Txt.isalpha z)) H:=q
  refine ⟨_,rfl,z,rfl,hz,_,_,rfl,rfl,_,rfl,?_⟩
  refine ite2 (fun c=>?_) (fun c=>?_)
  ·rw [c,Bool.true_and] at q'
   refine ⟨_,rfl,_,_,rfl,rfl,_,rfl,?_⟩
   refine ite2 (fun c=>?_) (fun c=>?_)
   ·rw [c,Bool.true_and] at q'
    refine ⟨_,rfl,rfl,z,rfl,rfl,_,rfl,?_⟩
    refine ite2 (fun c=>?_) (fun c=>?_)
    ·rw [c,Bool.true_and] at q'
     exact ⟨_,rfl,rfl,z,rfl,rfl,q'⟩
    ·rw [Bool.eq_false_iff.mpr c,Bool.false_and] at q'
     exact q'
   ·rw [Bool.eq_false_iff.mpr c,Bool.false_and,Bool.false_and] at q'
    exact q'
  ·rw [Bool.eq_false_iff.mpr c,Bool.false_and,Bool.false_and,Bool.false_and] at q'
   exact ⟨_,rfl,q'⟩
theorem sc16:zh ["thing"] ["thing"] (zd (top 16)):=fsM
theorem z47 (D:zo K mg "is_name" (top 16)) (G:Glo mg) (F1:FN P w K mg base 1 "is_letters" ["thing","most"] Zc):FN P w K mg base 2 "is_name" ["thing"] (sp1 z2r):=by
 refine FN.o D sc16 fun f cdv A outer s H vs Q E hr h=>?_
 obtain ⟨x,rfl,hx,q⟩:=h
 refine ⟨_,ze (zi (qR (zt F1 hr rfl (z0 (pv 0) (z0 (qE rfl G.name) z7)))
  (j5 (z19 F.plainAttrs_str F.slot_str_islower F.type_str_islower z04 (pv 0))))),?_⟩
 refine ⟨_,rfl,x,4,rfl,hx,_,rfl,?_⟩
 have q':Q (.bl (j8 x 4&&low x)) H:=q
 refine ite2 (fun c=>?_) (fun c=>?_)
 ·rw [c,Bool.true_and] at q'
  cases hx with
  | non=>cases c
  | bl b=>cases c
  | int i=>cases c
  | str z hz=>exact ⟨_,rfl,rfl,z,rfl,rfl,q'⟩
 ·rw [Bool.eq_false_iff.mpr c,Bool.false_and] at q'
  exact q'
theorem sc17:zh ["thing"] ["thing"] (zd (top 17)):=fsM
theorem z4a (D:zo K mg "is_kind" (top 17)) (G:Glo mg) (F1:FN P w K mg base 1 "is_letters" ["thing","most"] Zc):FN P w K mg base 2 "is_kind" ["thing"] (sp1 z1m):=by
 refine FN.o D sc17 fun f cdv A outer s H vs Q E hr h=>?_
 obtain ⟨x,rfl,hx,q⟩:=h
 refine ⟨_,ze (zi (zt F1 hr rfl (z0 (pv 0) (z0 (qE rfl G.kind) z7)))),?_⟩
 exact ⟨_,rfl,x,8,rfl,hx,q⟩
theorem sc18:zh ["thing"] ["thing"] (zd (top 18)):=fsM
theorem z48 (D:zo K mg "is_mark" (top 18)) (G:Glo mg) (F1:FN P w K mg base 2 "is_number_within" ["thing","low","high"] jb):FN P w K mg base 3 "is_mark" ["thing"] (sp1 z2t):=by
 refine FN.o D sc18 fun f cdv A outer s H vs Q E hr h=>?_
 obtain ⟨x,rfl,hx,q⟩:=h
 refine ⟨_,ze (zi (zt F1 hr rfl (z0 (pv 0) (z0 zf (z0 (qE rfl G.mark) z7))))),?_⟩
 exact ⟨_,rfl,x,0,99,rfl,hx,q⟩
def z0G:Sp:=fun vs H Q _=>∃x most,vs=[x,.int most]∧Scal x∧Q (.bl (z0w x most)) H
theorem sc19:zh ["thing","most"] ["thing","most"] (zd (top 19)):=fsM
theorem z2I (D:zo K mg "is_value_within" (top 19)) (G:Glo mg) (F1:FN P w K mg base 2 "is_number_within" ["thing","low","high"] jb) (F2:FN P w K mg base 2 "is_kind" ["thing"] (sp1 z1m)):FN P w K mg base 3 "is_value_within" ["thing","most"] z0G:=by
 refine FN.o D sc19 fun f cdv A outer s H vs Q E hr h=>?_
 obtain ⟨x,most,rfl,hx,q⟩:=h
 refine ⟨_,zb (qc (PW.pt (Qn (zq Qt (pv 0) qA (zu _)) (Zg (qY (zl zR rfl G.isinstance zB (z0 (pv 0) (z0 (Qp "bool" rfl G.bool QO) z7))))))) (ze (zi jI)) zA)
  (ze (zi (z4K (zt F1 hr rfl (z0 (pv 0) (z0 (z03 ZC (pv 1)) (z0 (pv 1) z7)))) (j5 (zt F2 hr rfl (z0 (pv 0) z7)))))),?_⟩
 refine ⟨_,rfl,rfl,_,rfl,?_⟩
 have q':Q (.bl (decide (x=.non)||isB x||zS x (-most) most||z1m x)) H:=q
 refine ite2 (fun c=>?_) (fun c=>?_)
 ·rw [c,Bool.true_or,Bool.true_or,Bool.true_or] at q'
  exact iteT q'
 ·rw [Bool.eq_false_iff.mpr c,Bool.false_or] at q'
  obtain ⟨t2,ty2,k2⟩:=QD (K:=K) (H:=H) hx
  refine ⟨_,rfl,_,"bool",t2,_,rfl,ty2,k2,_,rfl,?_⟩
  refine ite2 (fun c=>?_) (fun c=>?_)
  ·rw [c,Bool.true_or,Bool.true_or] at q'
   exact q'
  ·rw [Bool.eq_false_iff.mpr c,Bool.false_or] at q'
   refine ⟨_,rfl,_,rfl,most,rfl,_,rfl,x,-most,most,rfl,hx,_,rfl,?_⟩
   refine ite2 (fun c=>?_) (fun c=>?_)
   ·rw [c,Bool.true_or] at q'
    exact q'
   ·rw [Bool.eq_false_iff.mpr c,Bool.false_or] at q'
    exact ⟨_,rfl,x,rfl,hx,q'⟩
theorem sc20:zh ["thing"] ["thing"] (zd (top 20)):=fsM
theorem z1D (D:zo K mg "is_pushed" (top 20)) (G:Glo mg) (F1:FN P w K mg base 3 "is_value_within" ["thing","most"] z0G):FN P w K mg base 4 "is_pushed" ["thing"] (sp1 jG):=by
 refine FN.o D sc20 fun f cdv A outer s H vs Q E hr h=>?_
 obtain ⟨x,rfl,hx,q⟩:=h
 refine ⟨_,ze (zi (zt F1 hr rfl (z0 (pv 0) (z0 (qE rfl G.pushed) z7)))),?_⟩
 exact ⟨_,rfl,x,1000000000,rfl,hx,q⟩
theorem sc21:zh ["thing"] ["thing"] (zd (top 21)):=fsM
theorem z1F (D:zo K mg "is_copied" (top 21)) (F1:FN P w K mg base 2 "is_number_within" ["thing","low","high"] jb):FN P w K mg base 3 "is_copied" ["thing"] (sp1 Qd):=by
 refine FN.o D sc21 fun f cdv A outer s H vs Q E hr h=>?_
 obtain ⟨x,rfl,hx,q⟩:=h
 refine ⟨_,ze (zi (zt F1 hr rfl (z0 (pv 0) (z0 zf (z0 zf z7))))),?_⟩
 exact ⟨_,rfl,x,1,9,rfl,hx,q⟩
theorem sc22:zh ["thing"] ["thing"] (zd (top 22)):=fsM
theorem z0i (D:zo K mg "is_swapped_with" (top 22)) (F1:FN P w K mg base 2 "is_number_within" ["thing","low","high"] jb):FN P w K mg base 3 "is_swapped_with" ["thing"] (sp1 jZ):=by
 refine FN.o D sc22 fun f cdv A outer s H vs Q E hr h=>?_
 obtain ⟨x,rfl,hx,q⟩:=h
 refine ⟨_,ze (zi (zt F1 hr rfl (z0 (pv 0) (z0 zf (z0 zf z7))))),?_⟩
 exact ⟨_,rfl,x,2,9,rfl,hx,q⟩
theorem sc23:zh ["thing"] ["thing"] (zd (top 23)):=fsM
theorem z45 (D:zo K mg "is_none" (top 23)):FN P w K mg base 1 "is_none" ["thing"] (sp1 z1f):=by
 refine FN.o D sc23 fun f cdv A outer s H vs Q E hr h=>?_
 obtain ⟨x,rfl,hx,q⟩:=h
 refine ⟨_,ze (zi (qe Qt (pv 0) qA (zu _))),?_⟩
 exact ⟨_,rfl,rfl,q⟩
theorem jK {α β:Type} (f:α→β) (x:Str):∀l:List (Str × α),(l.map fun p=>(p.1,f p.2)).lookup x=(l.lookup x).map f
 | []=>rfl
 | (k,v) :: r=>by
  rw [kM,List.lookup_cons,List.lookup_cons]
  cases x == k with
  | true=>rfl
  | false=>exact jK f x r
noncomputable def z0N:List (Str × V):=jF.map fun p=>(p.1,V.str p.2)
theorem Zd (x:Str):z0N.lookup x=(zG x).map V.str:=jK _ _ _
structure Tabs (w:World) (K:ko) (mg:Str→Option Value):Prop where
 sorts:∃d,mg "ARG_SORTS"=some (.ref d)∧KTab w.params K d z0N
 tests:∃d f1 f2 f3 f4 f5 f6,mg "ARG_TESTS"=some (.ref d)∧KTab w.params K d [("value",.ref f1),("name",.ref f2),("copied",.ref f3),("swapped",.ref f4),("mark",.ref f5),("none",.ref f6)]∧
  mg "is_pushed"=some (.ref f1)∧mg "is_name"=some (.ref f2)∧mg "is_copied"=some (.ref f3)∧mg "is_swapped_with"=some (.ref f4)∧mg "is_mark"=some (.ref f5)∧mg "is_none"=some (.ref f6)
noncomputable def isOp:V→Bool
 | .str s=>(zG s).isSome
 | _=>false
theorem sc25:zh ["thing"] ["thing"] (zd (top 25)):=fsM
theorem z5O (D:zo K mg "is_op" (top 25)) (G:Glo mg) (T:Tabs w K mg):FN P w K mg base 1 "is_op" ["thing"] (sp1 isOp):=by
 refine FN.o D sc25 fun f cdv A outer s H vs Q E hr h=>?_
 obtain ⟨x,rfl,hx,q⟩:=h
 obtain ⟨d,md,td⟩:=T.sorts
 refine ⟨_,ze (zi (qR (zl zR rfl G.isinstance zB (z0 (pv 0) (z0 (Qp "str" rfl G.str JU) z7))) (j5 (z3l (z4M td rfl md (pv 0)))))),?_⟩
 obtain ⟨t1,ty1,k1⟩:=JL (K:=K) (H:=H) hx
 refine ⟨_,rfl,_,"str",t1,_,rfl,ty1,k1,_,rfl,?_⟩
 cases hx with
 | non=>exact q
 | bl b=>exact q
 | int i=>exact q
 | str z hz=>
  refine ⟨_,rfl,z,rfl,?_⟩
  have q':Q (.bl (zG z).isSome) H:=q
  rw [Zd,Option.isSome_map]
  exact q'
def z0H:Sp:=fun vs H Q _=>∃op s,vs=[.str op]∧zG op=some s∧Q (.str s) H
theorem sc26:zh ["op"] ["op"] (zd (top 26)):=fsM
theorem z44 (D:zo K mg "arg_sort" (top 26)) (T:Tabs w K mg):FN P w K mg base 1 "arg_sort" ["op"] z0H:=by
 refine FN.o D sc26 fun f cdv A outer s H vs Q E hr h=>?_
 obtain ⟨op,so,rfl,hs,q⟩:=h
 obtain ⟨d,md,td⟩:=T.sorts
 refine ⟨_,ze (zi (z15 td rfl md (pv 0) (fun _ _=>rfl))),?_⟩
 exact ⟨_,rfl,op,.str so,rfl,by rw [Zd,hs];rfl,q⟩
def z3d:Sp:=fun vs H Q _=>∃op s x,vs=[.str op,x]∧zG op=some s∧Scal x∧Q (.bl (jz s x)) H
theorem sc27:zh ["op","arg","fits"] ["op","arg"] (zd (top 27)):=fsM
theorem z3L {op s:Str} (h:zG op=some s):s="value"∨s="name"∨s="copied"∨s="swapped"∨s="mark"∨s="none":=by
 have hm:(op,s)∈jF:=PySem.mem_of_lookup h
 have all:∀p∈jF,p.2="value"∨p.2="name"∨p.2="copied"∨p.2="swapped"∨p.2="mark"∨p.2="none":=by trivial
 exact all _ hm
theorem z4c (D:zo K mg "arg_fits" (top 27)) (T:Tabs w K mg) (F1:FN P w K mg base 1 "arg_sort" ["op"] z0H) (A1:FN P w K mg base 4 "is_pushed" ["thing"] (sp1 jG)) (A2:FN P w K mg base 2 "is_name" ["thing"] (sp1 z2r))
  (A3:FN P w K mg base 3 "is_copied" ["thing"] (sp1 Qd)) (A4:FN P w K mg base 3 "is_swapped_with" ["thing"] (sp1 jZ)) (A5:FN P w K mg base 3 "is_mark" ["thing"] (sp1 z2t)) (A6:FN P w K mg base 1 "is_none" ["thing"] (sp1 z1f)):
  FN P w K mg base 5 "arg_fits" ["op","arg"] z3d:=by
 refine FN.o D sc27 fun f cdv A outer s H vs Q E hr h=>?_
 obtain ⟨op,so,x,rfl,hs,hx,q⟩:=h
 obtain ⟨d,f1,f2,f3,f4,f5,f6,md,td,m1,m2,m3,m4,m5,m6⟩:=T.tests
 have hr1:=hr.mono (show 1≤4 by decide)
 refine ⟨_,zb (zw (i:=2) sc27.nd rfl (Or.inl rfl) (z15 td rfl md (zt F1 hr1 rfl (z0 (pv 0) z7)) (fun _ _=>rfl))) (ze (zi (z2o (pv 2) (z0 (pv 1) z7)))),?_⟩
 refine ⟨_,rfl,op,so,rfl,hs,so,?_⟩
 rcases z3L hs with e | e | e | e | e | e
 ·subst e
  obtain ⟨g,gd,mg1,kp,bd,ok⟩:=A1
  cases (ku (m1.symm.trans mg1))
  exact ⟨.ref f1,rfl,by rfl,f1,gd,_,_,4,rfl,kp,ok,hr,bd,_,rfl,x,rfl,hx,q⟩
 ·subst e
  obtain ⟨g,gd,mg1,kp,bd,ok⟩:=A2
  cases (ku (m2.symm.trans mg1))
  exact ⟨.ref f2,rfl,by rfl,f2,gd,_,_,2,rfl,kp,ok,hr.mono (by decide),bd,_,rfl,x,rfl,hx,q⟩
 ·subst e
  obtain ⟨g,gd,mg1,kp,bd,ok⟩:=A3
  cases (ku (m3.symm.trans mg1))
  exact ⟨.ref f3,rfl,by rfl,f3,gd,_,_,3,rfl,kp,ok,hr.mono (by decide),bd,_,rfl,x,rfl,hx,q⟩
 ·subst e
  obtain ⟨g,gd,mg1,kp,bd,ok⟩:=A4
  cases (ku (m4.symm.trans mg1))
  exact ⟨.ref f4,rfl,by rfl,f4,gd,_,_,3,rfl,kp,ok,hr.mono (by decide),bd,_,rfl,x,rfl,hx,q⟩
 ·subst e
  obtain ⟨g,gd,mg1,kp,bd,ok⟩:=A5
  cases (ku (m5.symm.trans mg1))
  exact ⟨.ref f5,rfl,by rfl,f5,gd,_,_,3,rfl,kp,ok,hr.mono (by decide),bd,_,rfl,x,rfl,hx,q⟩
 ·subst e
  obtain ⟨g,gd,mg1,kp,bd,ok⟩:=A6
  cases (ku (m6.symm.trans mg1))
  exact ⟨.ref f6,rfl,by rfl,f6,gd,_,_,1,rfl,kp,ok,hr.mono (by decide),bd,_,rfl,x,rfl,hx,q⟩
def z3K:Sp:=fun vs H Q _=>(vs=[.non]∧Q (.bl false) H)∨∃a op arg line,vs=[.ref a]∧H a=some (.tup [.str op,arg,line])∧op.length≤sizeLine∧Scal arg∧Scal line∧Q (.bl (rowV op arg line)) H
theorem sc28:zh ["thing","op","arg","line"] ["thing"] (zd (top 28)):=fsM
theorem z57 (D:zo K mg "is_row" (top 28)) (G:Glo mg) (F1:FN P w K mg base 1 "is_op" ["thing"] (sp1 isOp)) (F2:FN P w K mg base 5 "arg_fits" ["op","arg"] z3d) (F3:FN P w K mg base 2 "is_number_within" ["thing","low","high"] jb):
  FN P w K mg base 6 "is_row" ["thing"] z3K:=by
 refine FN.of D sc28 (fun _ _ _ _ _ _=>zU1 fun _=>rfl) (fun vs H Q E h=>by rcases h with ⟨rfl,_⟩ | ⟨a,op,arg,line,rfl,_⟩ <;> rfl) (fun f cdv A outer s H vs Q E hr h=>?_)
 refine ⟨_,zb (qc (PW.pt (Qn (Zh (qY (zl zR rfl G.isinstance zB (z0 (pv 0) (z0 (Qp "tuple" rfl G.tuple z0t) z7)))))
   (Zg (zq Q0 (zl zk rfl G.len zF (z0 (pv 0) z7)) zf (zu _))))) (ze (zi jI)) zA)
  (zb (j3 (pv 0) (jr rfl (zr (zm (i:=1) sc28.nd rfl (Or.inl rfl)) (zr (zm (i:=2) sc28.nd rfl (Or.inl rfl)) (zr (zm (i:=3) sc28.nd rfl (Or.inl rfl)) qp)))))
  (ze (zi (qR (zt F1 (hr.mono (by decide)) rfl (z0 (pv 1) z7)) (qR (zt F2 hr rfl (z0 (pv 1) (z0 (pv 2) z7))) (j5 (zt F3 (hr.mono (by decide)) rfl (z0 (pv 3) (z0 zf (z0 (qE rfl G.line) z7)))))))))),?_⟩
 rcases h with ⟨rfl,q⟩ | ⟨a,op,arg,line,rfl,ha,hop,harg,hline,q⟩
 ·obtain ⟨t1,ty1,k1⟩:=z0e (K:=K) (H:=H) .non
  exact ⟨_,rfl,_,"tuple",t1,_,rfl,ty1,k1,_,rfl,iteT (iteT q)⟩
 ·refine ⟨_,rfl,_,"tuple",_,true,rfl,.tup ha,rfl,_,rfl,iteF ?_⟩
  refine ⟨_,rfl,a,_,rfl,.inr (SqT.of ha),rfl,_,rfl,iteF ?_⟩
  refine ⟨_,rfl,a,_,rfl,SqT.of ha,rfl,_,_,rfl,_,_,rfl,_,_,rfl,rfl,?_⟩
  refine ⟨_,rfl,_,rfl,.str op hop,_,rfl,?_⟩
  have q':Q (.bl ((zG op).isSome&&qP op arg&&zS line 0 9999)) H:=q
  cases hs:zG op with
  | none=>
   have e:isOp (.str op)=false:=by show (zG op).isSome=false;rw [hs];rfl
   rw [e]
   rw [hs] at q'
   exact iteF q'
  | some so=>
   have e:isOp (.str op)=true:=by show (zG op).isSome=true;rw [hs];rfl
   have ea:qP op arg=jz so arg:=by unfold qP;rw [hs]
   rw [e]
   rw [hs,ea] at q'
   refine iteT ⟨_,rfl,_,rfl,op,so,arg,rfl,hs,harg,_,rfl,?_⟩
   refine ite2 (fun c=>?_) (fun c=>?_)
   ·rw [c] at q'
    exact ⟨_,rfl,line,0,9999,rfl,hline,q'⟩
   ·rw [Bool.eq_false_iff.mpr c] at q'
    exact q'
end
structure Row where
 op:Str
 arg:V
 line:Int
noncomputable def tupV (r:Row):List V:=[.str r.op,r.arg,.int r.line]
abbrev zp (H:Hp):List Addr→List Row→Prop:=Paired fun a r=>H a=some (.tup (tupV r))
def jB (r:Row):Prop:=rowV r.op r.arg (.int r.line)=true
theorem JB {α β:Type} {F:α→β→Prop} {xs ys:List α} {us vs:List β} (h:Paired F xs us) (k:Paired F ys vs):Paired F (xs++ys) (us++vs):=by
 induction h with
 | nil=>exact k
 | cons r _ ih=>exact .cons r ih
theorem z0X {β:Type} {F:Addr→β→Prop} {as:List Addr} {rs:List β} (h:Paired F as rs):∀{i:Nat} {x:V},(as.map V.ref)[i]?=some x→∃a r,x=.ref a∧rs[i]?=some r∧F a r:=by
 induction h with
 | nil=>intro i x e;simp at e
 | cons r t ih=>
  intro i x e
  cases i with
  | zero=>simp at e;subst e;exact ⟨_,_,rfl,rfl,r⟩
  | succ i=>
   obtain ⟨a,r,h1,h2,h3⟩:=ih (i:=i) (x:=x) (by simpa using e)
   exact ⟨a,r,h1,by simpa using h2,h3⟩
theorem z4H {α β:Type} {F:α→β→Prop} {as:List α} {rs:List β} (h:Paired F as rs):∀{i:Nat} {r:β},rs[i]?=some r→∃a,as[i]?=some a∧F a r:=by
 induction h with
 | nil=>intro i x e;simp at e
 | cons r t ih=>
  intro i x e
  cases i with
  | zero=>simp at e;subst e;exact ⟨_,rfl,r⟩
  | succ i=>
   obtain ⟨a,h2,h3⟩:=ih (i:=i) (by simpa using e)
   exact ⟨a,by simpa using h2,h3⟩
theorem zp.keep {H H':Hp} {as:List Addr} {rs:List Row} (h:zp H as rs) (k:∀a xs,H a=some (.tup xs)→H' a=some (.tup xs)):zp H' as rs:=Paired.mapP h fun _ _ e=>k _ _ e
theorem zp.same {H H':Hp} {as:List Addr} {rs:List Row} (h:zp H as rs) (s:Same H H'):zp H' as rs:=h.keep fun _ _ e=>s _ _ e
theorem zp.get {H:Hp} {as:List Addr} {rs:List Row} {i:Nat} {x:V} (h:zp H as rs) (e:(as.map V.ref)[i]?=some x):∃a r,x=.ref a∧rs[i]?=some r∧H a=some (.tup (tupV r)):=z0X h e
theorem zp.append {H:Hp} {as bs:List Addr} {rs ts:List Row} (h:zp H as rs) (k:zp H bs ts):zp H (as++bs) (rs++ts):=JB h k
theorem zp.len {H:Hp} {as:List Addr} {rs:List Row} (h:zp H as rs):as.length=rs.length:=Paired.length h
theorem zg {H:Hp} {p:Addr} (h:H p=none) (o:HO):Same H (upd H p o):=fun b u q=>by rw [zc (z8 q h)];exact q
theorem Same.upd {H H2:Hp} {p:Addr} (s:Same H H2) (h:H p=none) (o:HO):Same H (upd H2 p o):=fun b u q=>by rw [zc (z8 q h)];exact s b u q
theorem z2p {op s:Str} (h:zG op=some s):op.length≤7:=by
 have hm:(op,s)∈jF:=PySem.mem_of_lookup h
 have all:∀p∈jF,p.1.length≤7:=by trivial
 exact all _ hm
theorem z0O {n:Nat} (h:n≤1000):n≤sizeLine:=Nat.le_of_lt (qj h)
theorem jO {x:V} {m:Int} (h:j8 x m=true) (hm:m≤100):Scal x:=by
 cases x with
 | str s=>
  have h:(decide ((1:Int)≤(s.length:Int))&&decide ((s.length:Int)≤m)&&Txt.isascii s&&Txt.isalpha s)=true:=h
  simp only [kW,kX] at h
  exact .str s (z0O (by lia))
 | _=>cases h
theorem zP {x:V} {lo hi:Int} (h:zS x lo hi=true):∃i,x=.int i∧lo≤i∧i≤hi:=by
 cases x with
 | int i=>
  have h:(decide (lo≤i)&&decide (i≤hi))=true:=h
  simp only [kW,kX] at h
  exact ⟨i,rfl,h.1,h.2⟩
 | _=>cases h
theorem z1G {s:Str} {x:V} (h:jz s x=true):Scal x:=by
 unfold jz at h
 split at h
 ·unfold jG z0w at h
  simp only [Bool.or_eq_true,kX] at h
  rcases h with ((h | h) | h) | h
  ·subst h;exact .non
  ·cases x with
   | bl b=>exact .bl b
   | _=>cases h
  ·obtain ⟨i,rfl,_⟩:=zP h;exact .int i
  ·exact jO h (by decide)
 ·split at h
  ·unfold z2r at h
   simp only [kW] at h
   exact jO h.1 (by decide)
  ·split at h
   ·obtain ⟨i,rfl,_⟩:=zP h;exact .int i
   ·split at h
    ·obtain ⟨i,rfl,_⟩:=zP h;exact .int i
    ·split at h
     ·obtain ⟨i,rfl,_⟩:=zP h;exact .int i
     ·unfold z1f at h
      simp only [kX] at h
      subst h;exact .non
theorem jB.parts {r:Row} (h:jB r):∃s,zG r.op=some s∧jz s r.arg=true∧0≤r.line∧r.line≤9999∧r.op.length≤sizeLine∧Scal r.arg:=by
 unfold jB rowV at h
 simp only [kW] at h
 obtain ⟨⟨h1,h2⟩,h3⟩:=h
 obtain ⟨s,hs⟩:=Option.isSome_iff_exists.mp h1
 have h2':jz s r.arg=true:=by unfold qP at h2;rw [hs] at h2;exact h2
 obtain ⟨i,e,l1,l2⟩:=zP h3
 cases e
 exact ⟨s,hs,h2',l1,l2,z0O (km (z2p hs) (by decide)),z1G h2'⟩
theorem ju {x:V} (h:jz "mark" x=true):∃m:Int,x=.int m∧0≤m∧m≤99:=by
 have e:jz "mark" x=z2t x:=by
  unfold jz
  rw [kq (by trivial),kq (by trivial),kq (by trivial),kq (by trivial),kr rfl]
 rw [e] at h
 exact zP h
noncomputable def labP (m:Int) (r:Row):Bool:=decide (r.op="label")&&decide (r.arg=.int m)
noncomputable def zy (rs:List Row) (m:Int):Option Nat:=rs.findIdx? (labP m)
noncomputable def qS (rs:List Row) (i:Nat) (r:Row):Bool:=
 if r.op="label" then (match r.arg with | .int m=>decide (zy rs m=some i) | _=>false)
 else if zG r.op=some ("mark":Str) then (match r.arg with | .int m=>(zy rs m).isSome | _=>false) else true
def Zw (kvs:List (Key × V)) (rs:List Row):Prop:=∀m:Int,valV kvs (Sum.inl m:Key)=Option.map (fun i:Nat=>V.int (i:Int)) (zy rs m)
section
def z0J (K:ko):Sp:=fun vs H Q _=>∃l as rs,vs=[.ref l]∧SqL K H l (as.map V.ref)∧zp H as rs∧(∀r∈rs,jB r)∧rs.length≤1000∧
 ∀d kvs H',H d=none→Same H H'→H' d=some (.dK kvs)→Zw kvs rs→Q (.ref d) H'
theorem sc29:zh ["rows","places","place","row"] ["rows"] (zd (top 29)):=fsM
theorem qx {α:Type} {l:List α} {i:Nat} {x:α} (h:l[i]?=some x):l.take (i+1)=l.take i++[x]:=by
 rw [List.take_add_one,h]
 rfl
theorem Q3 {rs:List Row} {i:Nat} {r:Row} (h:rs[i]?=some r) (m:Int):zy (rs.take (i+1)) m=(zy (rs.take i) m).or (if labP m r=true then some i else none):=by
 have hl:(rs.take i).length=i:=by
  rw [List.length_take]
  have:=(kd.mp h).1
  lia
 unfold zy
 rw [qx h,List.findIdx?_append,hl]
 congr 1
 rw [List.findIdx?_cons]
 by_cases c:labP m r=true
 ·rw [kr c,kr c];simp
 ·rw [kq c,kq c];simp
theorem z49 (D:zo K mg "label_places" (top 29)) (G:Glo mg) (FR:FN P w K mg base 6 "is_row" ["thing"] z3K):FN P w K mg base 7 "label_places" ["rows"] (z0J K):=by
 refine FN.o D sc29 fun f cdv A outer s H vs Q E hr h=>?_
 obtain ⟨l,as,rs,rfl,hS,hR,hok,hlen,q⟩:=h
 refine ⟨_,zb (zw (i:=1) sc29.nd rfl (Or.inl rfl) z2l)
  (zb (jg PassesOwn.never rfl (z13 rfl G.enumerate (z0 (pv 0) z7)) (jr rfl (zr (zm (i:=2) sc29.nd rfl (Or.inl rfl)) (zr (zm (i:=3) sc29.nd rfl (Or.inl rfl)) qp)))
   (ze (qc (PW.pt (Jy (qY (zt FR hr rfl (z0 (pv 3) z7))) (ZT (zq jV (zC zV (pv 3) zf (fun _ _=>rfl)) zY (zu _)))))
    (ze (zQ (z14 (pv 1) (zC zV (pv 3) zf (fun _ _=>rfl)) (pv 2) ⟨rfl,rfl,rfl,rfl⟩))) zA)))
  (ze (zi (pv 1)))),?_⟩
 intro d hd
 have hll:as.length=rs.length:=hR.len
 have hml:(as.map V.ref).length=rs.length:=by rw [kg];exact hll
 refine ⟨_,rfl,l,rfl,⟨_,(zg hd _).seq hS⟩,JM (K:=K) (a:=l) (xs:=as.map V.ref) (fun i σ H2=>∃kvs v2 v3,σ=[some (.ref l),some (.ref d),v2,v3]∧Same H H2∧H2 d=some (.dK kvs)∧kvs.length≤i∧Zw kvs (rs.take i))
  ⟨[],none,none,rfl,zg hd _,z6,kc _,fun m=>by rw [List.take_zero];rfl⟩ (fun i σ H2 _ ⟨_,_,_,_,s2,_⟩=>s2.seq hS) ?_ ?_⟩
 ·rintro i x σ H2 p hi ⟨kvs,v2,v3,rfl,s2,hD,hk,hL⟩ hp
  obtain ⟨a,r,rfl,hr1,ha⟩:=(hR.same s2).get hi
  have hil:i < rs.length:=(kd.mp hr1).1
  have npd:d≠p:=z8 hD hp
  have nap:a≠p:=z8 ha hp
  have ha':(upd H2 p (.tup [.int i,.ref a])) a=some (.tup (tupV r)):=by rw [zc nap];exact ha
  have s3:Same H (upd H2 p (.tup [.int i,.ref a])):=fun b o e=>by rw [zc (z8 (s2 b o e) hp)];exact s2 b o e
  obtain ⟨so,hs,hfit,hl0,hl1,hop,hsc⟩:=(hok r (kA hr1)).parts
  have hrow:rowV r.op r.arg (.int r.line)=true:=hok r (kA hr1)
  refine ⟨p,_,rfl,SqT.of z6,rfl,_,_,rfl,_,_,rfl,rfl,?_⟩
  refine ⟨_,rfl,.inr ⟨a,r.op,r.arg,.int r.line,rfl,ha',hop,hsc,.int _,_,rfl,?_⟩⟩
  rw [hrow]
  refine iteT ⟨_,rfl,a,_,_,_,rfl,rfl,SqT.of ha',zj (j:=0) rfl,rfl,_,rfl,?_⟩
  have hD':(upd H2 p (.tup [.int i,.ref a])) d=some (.dK kvs):=by rw [zc npd];exact hD
  refine ite2 (fun c=>?_) (fun c=>?_)
  ·have eop:r.op="label":=by
    have:=kw c
    injection this
   have esort:so="mark":=by
    rw [eop] at hs
    have:zG "label"=some "mark":=by trivial
    rw [this] at hs
    exact (ku hs).symm
   rw [esort] at hfit
   obtain ⟨m,em,_,_⟩:=ju hfit
   refine ⟨_,rfl,d,rfl,.inl ⟨kvs,.inl hD'⟩,_,rfl,a,_,_,_,rfl,rfl,SqT.of ha',zj (j:=1) rfl,_,rfl,kvs,Sum.inl m,hD',em,qj (by lia),?_⟩
   have eP:labP m r=true:=by unfold labP;rw [eop,em];simp
   cases hv:valV kvs (Sum.inl m:Key) with
   | some v=>
    refine ⟨kvs,_,_,rfl,s3,hD',by lia,fun m'=>?_⟩
    rw [Q3 hr1 m',hL m']
    by_cases e:m'=m
    ·subst e
     have:=hL m'
     rw [hv] at this
     cases h1:zy (rs.take i) m' with
     | none=>rw [h1] at this;cases this
     | some j=>rfl
    ·have:labP m' r=false:=by
      unfold labP
      rw [em]
      have:¬(V.int m=V.int m'):=fun z=>e (by injection z with z;exact z.symm)
      simp [this]
     rw [this]
     simp
   | none=>
    refine ⟨putK kvs (Sum.inl m) (.int i),_,_,rfl,fun b o e=>?_,z6,?_,fun m'=>?_⟩
    ·rw [zc (z8 e hd)]
     exact s3 b o e
    ·have:=qi kvs (Sum.inl m:Key) (V.int i)
     lia
    ·rw [ZN,Q3 hr1 m']
     by_cases e:m'=m
     ·subst e
      have:=hL m'
      rw [hv] at this
      rw [kr rfl,eP,kr rfl]
      cases h1:zy (rs.take i) m' with
      | none=>rfl
      | some j=>rw [h1] at this;cases this
     ·have:labP m' r=false:=by
       unfold labP
       rw [em]
       have:¬(V.int m=V.int m'):=fun z=>e (by injection z with z;exact z.symm)
       simp [this]
      rw [this,kq (fun z=>e (by injection z)),hL m']
      simp
  ·refine ⟨kvs,_,_,rfl,s3,hD',by lia,fun m'=>?_⟩
   rw [Q3 hr1 m',hL m']
   have:labP m' r=false:=by
    unfold labP
    have:¬(r.op="label"):=fun z=>c (by rw [z];rfl)
    simp [this]
   rw [this]
   simp
 ·rintro σ H2 ⟨kvs,v2,v3,rfl,s2,hD,hk,hL⟩
  refine ⟨_,rfl,q d kvs H2 hd s2 hD ?_⟩
  rw [hml,List.take_length] at hL
  exact hL
end
section
def z3b:Sp:=fun vs H Q _=>∃a i d r kvs rs,vs=[.ref a,.int (i:Nat),.ref d]∧H a=some (.tup (tupV r))∧jB r∧H d=some (.dK kvs)∧Zw kvs rs∧(∀m:Int,r.op="label"→r.arg=.int m→(zy rs m).isSome=true)∧Q (.bl (qS rs i r)) H
theorem sc30:zh ["row","place","labels","op","mark"] ["row","place","labels"] (zd (top 30)):=fsM
theorem z0b:zG "label"=some "mark":=by trivial
theorem QG (D:zo K mg "mark_fits" (top 30)) (FS:FN P w K mg base 1 "arg_sort" ["op"] z0H):FN P w K mg base 2 "mark_fits" ["row","place","labels"] z3b:=by
 refine FN.o D sc30 fun f cdv A outer s H vs Q E hr h=>?_
 obtain ⟨a,i,d,r,kvs,rs,rfl,ha,hok,hd,hL,hlab,q⟩:=h
 have hu:=z2z hr
 obtain ⟨so,hs,hfit,hl0,hl1,hop,hsc⟩:=hok.parts
 refine ⟨_,zb (JA (i:=3) (j:=4) rfl sc30.nd rfl rfl (by decide) rfl rfl (z0 (zC zV (pv 0) zf (fun _ _=>rfl)) (z0 (zC zV (pv 0) zf (fun _ _=>rfl)) z7)) rfl)
  (zb (qc (zq jV (pv 3) zY (zu _)) (ze (zi (qe jV (J7 hu (pv 2) (pv 4) (fun _ _=>rfl)) (pv 1) (zu _)))) zA)
  (ze (zi (z4K (qe Q0 (zt FS hr rfl (z0 (pv 3) z7)) zY (zu _)) (j5 (z3l (z4N hu (pv 4) (pv 2)))))))),?_⟩
 refine ⟨_,rfl,a,_,_,_,rfl,rfl,SqT.of ha,zj (j:=0) rfl,_,rfl,a,_,_,_,rfl,rfl,SqT.of ha,zj (j:=1) rfl,_,_,rfl,?_⟩
 refine ⟨_,rfl,rfl,_,rfl,?_⟩
 refine ite2 (fun c=>?_) (fun c=>?_)
 ·have eop:r.op="label":=by
   have:=kw c
   injection this
  have esort:so="mark":=by
   rw [eop,z0b] at hs
   exact (ku hs).symm
  rw [esort] at hfit
  obtain ⟨m,em,_,_⟩:=ju hfit
  obtain ⟨j,hj⟩:=Option.isSome_iff_exists.mp (hlab m eop em)
  have hv:valV kvs (Sum.inl m:Key)=some (.int (j:Int)):=by rw [hL m,hj];rfl
  have hg:DGet H d r.arg (some (.int (j:Int))):=by rw [em,←hv];exact DGet.k (k:=Sum.inl m) hd
  refine ⟨_,rfl,_,rfl,d,_,rfl,hg,_,rfl,rfl,?_⟩
  have e:qS rs i r=decide (V.int (j:Int)=V.int (i:Int)):=by
   unfold qS
   rw [kr eop,em]
   show decide (zy rs m=some i)=_
   rw [hj]
   by_cases z:j=i
   ·subst z;simp
   ·rw [ke (fun y=>z (by injection y)),ke (fun y=>z (by injection y with y;lia))]
  rw [e] at q
  exact q
 ·have eop:¬r.op="label":=fun z=>c (by rw [z];rfl)
  refine ⟨_,rfl,r.op,so,rfl,hs,rfl,_,rfl,?_⟩
  unfold qS at q
  rw [kq eop,hs] at q
  by_cases e:so="mark"
  ·subst e
   rw [kr rfl] at q
   obtain ⟨m,em,_,_⟩:=ju hfit
   have e1:(!decide (V.str "mark"=V.str "mark"))=false:=by trivial
   rw [e1]
   refine iteF ⟨_,rfl,_,rfl,d,Option.map (fun i:Nat=>V.int (i:Int)) (zy rs m),rfl,?_,?_⟩
   ·have:DGet H d r.arg (Option.map (fun i:Nat=>V.int (i:Int)) (zy rs m)):=by
     rw [em,←hL m]
     exact DGet.k (k:=Sum.inl m) hd
    exact this
   ·rw [em] at q
    rw [Option.isSome_map]
    exact q
  ·rw [kq (fun z=>e (ku z))] at q
   have e1:(!decide (V.str so=V.str "mark"))=true:=by
    rw [ke (fun z=>e (by injection z))]
    rfl
   rw [e1]
   exact iteT q
def z4A (K:ko):Sp:=fun vs H Q _=>∃l as rs,vs=[.ref l]∧SqL K H l (as.map V.ref)∧zp H as rs∧(∀r∈rs,jB r)∧rs.length≤1000∧
 (∀H',Same H H'→(∀i r,rs[i]?=some r→qS rs i r=true)→Q .non H')∧
 (∀(i:Nat) r H',Same H H'→rs[i]?=some r→qS rs i r=false→(∀j r',j < i→rs[j]?=some r'→qS rs j r'=true)→Q (.int i) H')
theorem sc31:zh ["rows","labels","place","row"] ["rows"] (zd (top 31)):=fsM
theorem Ji {rs:List Row} {i:Nat} {r:Row} {m:Int} (h:rs[i]?=some r) (h1:r.op="label") (h2:r.arg=.int m):(zy rs m).isSome=true:=by
 unfold zy
 rw [List.findIdx?_isSome,List.any_eq_true]
 exact ⟨r,kA h,by unfold labP;rw [h1,h2];simp⟩
theorem z5f (D:zo K mg "first_bad_place" (top 31)) (G:Glo mg) (FR:FN P w K mg base 6 "is_row" ["thing"] z3K) (FL:FN P w K mg base 7 "label_places" ["rows"] (z0J K)) (FM:FN P w K mg base 2 "mark_fits" ["row","place","labels"] z3b):
  FN P w K mg base 8 "first_bad_place" ["rows"] (z4A K):=by
 refine FN.o D sc31 fun f cdv A outer s H vs Q E hr h=>?_
 obtain ⟨l,as,rs,rfl,hS,hR,hok,hlen,q1,q2⟩:=h
 refine ⟨_,zb (zw (i:=1) sc31.nd rfl (Or.inl rfl) (zt FL hr rfl (z0 (pv 0) z7)))
  (zb (jg PassesOwn.never rfl (z13 rfl G.enumerate (z0 (pv 0) z7)) (jr rfl (zr (zm (i:=2) sc31.nd rfl (Or.inl rfl)) (zr (zm (i:=3) sc31.nd rfl (Or.inl rfl)) qp)))
   (ze (qc (PW.pt (Qn (Zh (qY (zt FR (hr.mono (by decide)) rfl (z0 (pv 3) z7)))) (Zg (Zh (qY (zt FM (hr.mono (by decide)) rfl (z0 (pv 3) (z0 (pv 2) (z0 (pv 1) z7)))))))))
    (ze (zi (pv 2))) zA)))
  (ze (zi qA))),?_⟩
 refine ⟨_,rfl,l,as,rs,rfl,hS,hR,hok,hlen,fun d kvs H1 hd0 s1 hD hL=>?_⟩
 have hll:as.length=rs.length:=hR.len
 have hml:(as.map V.ref).length=rs.length:=by rw [kg];exact hll
 refine ⟨_,rfl,l,rfl,⟨_,s1.seq hS⟩,JM (K:=K) (a:=l) (xs:=as.map V.ref) (fun i σ H2=>∃v2 v3,σ=[some (.ref l),some (.ref d),v2,v3]∧Same H1 H2∧∀j r',j < i→rs[j]?=some r'→qS rs j r'=true)
  ⟨none,none,rfl,Same.refl _,fun j _ hj=>absurd hj (Nat.not_lt_zero _)⟩ (fun i σ H2 _ ⟨_,_,_,s2,_⟩=>s2.seq (s1.seq hS)) ?_ ?_⟩
 ·rintro i x σ H2 p hi ⟨v2,v3,rfl,s2,hall⟩ hp
  obtain ⟨a,r,rfl,hr1,ha⟩:=((hR.same s1).same s2).get hi
  have hD2:=s2 _ _ hD
  have npd:d≠p:=z8 hD2 hp
  have nap:a≠p:=z8 ha hp
  have ha':(upd H2 p (.tup [.int i,.ref a])) a=some (.tup (tupV r)):=by rw [zc nap];exact ha
  have hD':(upd H2 p (.tup [.int i,.ref a])) d=some (.dK kvs):=by rw [zc npd];exact hD2
  have s3:Same H1 (upd H2 p (.tup [.int i,.ref a])):=fun b o e=>by rw [zc (z8 (s2 b o e) hp)];exact s2 b o e
  have hro:=hok r (kA hr1)
  obtain ⟨so,hs,hfit,hl0,hl1,hop,hsc⟩:=hro.parts
  refine ⟨p,_,rfl,SqT.of z6,rfl,_,_,rfl,_,_,rfl,rfl,?_⟩
  refine ⟨_,rfl,.inr ⟨a,r.op,r.arg,.int r.line,rfl,ha',hop,hsc,.int _,_,rfl,?_⟩⟩
  have hrow:rowV r.op r.arg (.int r.line)=true:=hro
  rw [hrow]
  refine iteF ⟨_,rfl,_,rfl,_,rfl,a,i,d,r,kvs,rs,rfl,ha',hro,hD',hL,(fun m h1 h2=>Ji hr1 h1 h2),_,rfl,?_⟩
  cases hb:qS rs i r with
  | true=>
   refine iteF ⟨_,_,rfl,s3,fun j r' hj hr'=>?_⟩
   by_cases e:j=i
   ·subst e
    rw [hr1] at hr'
    cases hr'
    exact hb
   ·exact hall j r' (by lia) hr'
  | false=>exact iteT ⟨_,rfl,q2 i r _ (s1.trans s3) hr1 hb hall⟩
 ·rintro σ H2 ⟨v2,v3,rfl,s2,hall⟩
  refine q1 H2 (s1.trans s2) fun i r hir=>hall i r ?_ hir
  rw [hml]
  exact (kd.mp hir).1
def z4y:Sp:=fun vs H Q _=>∃l xs,vs=[.ref l]∧H l=some (.lst xs)∧1≤xs.length∧xs.length≤150∧Q (.bl true) H
theorem sc32:zh ["thing"] ["thing"] (zd (top 32)):=fsM
theorem z5d (D:zo K mg "has_places" (top 32)) (G:Glo mg):FN P w K mg base 1 "has_places" ["thing"] z4y:=by
 refine FN.o D sc32 fun f cdv A outer s H vs Q E hr h=>?_
 obtain ⟨l,xs,rfl,hl,h1,h2,q⟩:=h
 refine ⟨_,ze (zi (qR (zl zR rfl G.isinstance zB (z0 (pv 0) (z0 (Qp "list" rfl G.list jA) z7)))
  (j5 (ZX Qs Qs zf (zl zk rfl G.len zF (z0 (pv 0) z7)) (qE rfl G.rows))))),?_⟩
 refine ⟨_,rfl,_,"list",_,true,rfl,.lst hl,rfl,_,rfl,iteT ?_⟩
 refine ⟨_,rfl,l,_,rfl,.inl (SqL.of hl),_,_,rfl,rfl,_,rfl,?_⟩
 have e1:decide ((1:Int)≤(xs.length:Int))=true:=kf (by lia)
 have e2:decide ((xs.length:Int)≤150)=true:=kf (by lia)
 rw [e1]
 refine iteT ⟨_,_,rfl,rfl,?_⟩
 show Q (.bl (decide ((xs.length:Int)≤150))) H
 rw [e2]
 exact q
structure Code (rs:List Row):Prop where
 ok:∀r∈rs,jB r
 fit:∀i r,rs[i]?=some r→qS rs i r=true
 lo:1≤rs.length
 hi:rs.length≤150
def z0M:Sp:=fun vs H Q _=>∃l as rs,vs=[.ref l]∧H l=some (.lst (as.map V.ref))∧zp H as rs∧Code rs∧∀H',Same H H'→Q .non H'
theorem sc33:zh ["thing","place"] ["thing"] (zd (top 33)):=fsM
theorem z2O (D:zo K mg "check_code" (top 33)) (FH:FN P w K mg base 1 "has_places" ["thing"] z4y) (FB:FN P w K mg base 8 "first_bad_place" ["rows"] (z4A K)):FN P w K mg base 9 "check_code" ["thing"] z0M:=by
 refine FN.o D sc33 fun f cdv A outer s H vs Q E hr h=>?_
 obtain ⟨l,as,rs,rfl,hl,hR,hC,q⟩:=h
 refine ⟨_,zb (qc (Zh (qY (zt FH (hr.mono (by decide)) rfl (z0 (pv 0) z7)))) qZ zA)
  (zb (zw (i:=1) sc33.nd rfl (Or.inl rfl) (zt FB hr rfl (z0 (pv 0) z7)))
  (ze (qc (zq ZZ (pv 1) qA (zu _)) qZ zA))),?_⟩
 have hll:as.length=rs.length:=hR.len
 refine ⟨_,rfl,l,_,rfl,hl,by rw [kg,hll];exact hC.lo,by rw [kg,hll];exact hC.hi,_,rfl,iteF ?_⟩
 refine ⟨_,rfl,l,as,rs,rfl,SqL.of hl,hR,hC.ok,km hC.hi (by decide),fun H' s' _=>?_,fun i r H' s' hi hf _=>?_⟩
 ·exact ⟨_,rfl,rfl,_,rfl,iteF (q H' s')⟩
 ·rw [hC.fit i r hi] at hf
  cases hf
end
noncomputable def qt:List (Str × Int):=[("store",1),("drop",1),("add",2),("sub",2),("mul",2),("div",2),("rest",2),("less",2),("same",2),("neg",1),("not",1),("tell",1),("iftrue",1),("iffalse",1),("ortrue",1),("orfalse",1),("return",1),("raise",1)]
noncomputable def qy:List (Str × Int):=[("push",1),("load",1),("quick",1),("copy",1),("add",1),("sub",1),("mul",1),("div",1),("rest",1),("less",1),("same",1),("neg",1),("not",1)]
noncomputable def zT:List (Str × Int):=[("try",1),("endtry",-1)]
noncomputable def jumping:List Str:=["jump","iftrue","iffalse","ortrue","orfalse"]
noncomputable def leaving:List Str:=["ortrue","orfalse"]
noncomputable def zO:List Str:=["jump","return","raise"]
noncomputable def faulting:List Str:=["load","clear","add","sub","mul","div","rest","less","neg","raise"]
noncomputable def QC (t:List (Str × Int)):List (Str × V):=t.map fun p=>(p.1,V.int p.2)
noncomputable def tabI (t:List (Str × Int)) (x:Str):Int:=(t.lookup x).getD 0
theorem jx (t:List (Str × Int)) (x:Str):((QC t).lookup x).getD (.int 0)=.int (tabI t x):=by
 unfold QC tabI
 rw [jK]
 cases t.lookup x <;> rfl
def KTup (K:ko) (a:Addr) (xs:List V):Prop:=
 ∃(o:Obj) (its:Array Value) (n:Nat),K.lookup a=some o∧o.cls=.type "tuple"∧o.data=.seq its n∧its.size≤sizeLine∧Vals xs its.toList
theorem KTup.sq {K:ko} {a:Addr} {xs:List V} (h:KTup K a xs) (H:Hp):SqT K H a xs:=.inr h
structure z31 (w:World) (K:ko) (mg:Str→Option Value):Prop where
 takes:∃d,mg "TAKES"=some (.ref d)∧KTab w.params K d (QC qt)
 pushes:∃d,mg "PUSHES"=some (.ref d)∧KTab w.params K d (QC qy)
 gput:∃d,mg "GUARDS_PUT"=some (.ref d)∧KTab w.params K d (QC zT)
 jumping:∃a,mg "JUMPING"=some (.ref a)∧KTup K a (jumping.map V.str)
 leaving:∃a,mg "LEAVING"=some (.ref a)∧KTup K a (leaving.map V.str)
 never:∃a,mg "NEVER_ON"=some (.ref a)∧KTup K a (zO.map V.str)
 faulting:∃a,mg "FAULTING"=some (.ref a)∧KTup K a (faulting.map V.str)
 first:∃a g,mg "FIRST_STATE"=some (.ref a)∧KTup K a [.int 0,.ref g]∧KTup K g []
noncomputable def inT (x:Str) (l:List Str):Bool:=inV (.str x) (l.map V.str)
theorem z1t {x:Str} {l:List Str}:inT x l=true↔x∈l:=by
 unfold inT inV
 rw [List.any_map,List.any_eq_true]
 constructor
 ·rintro ⟨y,hy,e⟩
  have e:(y == x)=true:=e
  rw [beq_iff_eq] at e
  exact e▸hy
 ·exact fun h=>⟨x,h,by show (x == x)=true;simp⟩
theorem j9 (l:List Str):(l.map V.str).all qI=true:=by
 rw [List.all_map,List.all_eq_true]
 exact fun _ _=>rfl
noncomputable def qJ:List Str:=["copy","swap"]
noncomputable def qH (r:Row):Int:=if inT r.op qJ=true then (match r.arg with | .int n=>n | _=>0) else tabI qt r.op
abbrev Gd:=Int × Int
def ja (H:Hp) (x:V):Option Gd→Prop
 | none=>x=.non
 | some g=>∃a,x=.ref a∧H a=some (.tup [.int g.1,.int g.2])
theorem ja.same {H H':Hp} {x:V} {og:Option Gd} (h:ja H x og) (s:Same H H'):ja H' x og:=by
 cases og with
 | none=>exact h
 | some g=>
  obtain ⟨a,e,h⟩:=h
  exact ⟨a,e,s _ _ h⟩
noncomputable def ZA (r:Row) (og:Option Gd):Bool:=decide (r.op="endtry")&&og.isNone
noncomputable def jk (r:Row) (d:Int) (og:Option Gd):Bool:=match og with
 | none=>false
 | some g=>if r.op="copy" then false else decide ((if d - qH r > 0 then d - qH r else 0) < (if g.2 < d then g.2 else d))
theorem z0q {r:Row} (hok:jB r) (h:inT r.op qJ=true):∃n:Int,r.arg=.int n∧1≤n∧n≤9:=by
 obtain ⟨s,hs,hfit,_⟩:=hok.parts
 rw [z1t] at h
 rcases kx.mp h with h | h
 ·rw [h,show zG "copy"=some "copied" by trivial] at hs
  cases hs
  have e:jz "copied" r.arg=Qd r.arg:=by
   unfold jz
   rw [kq (by trivial),kq (by trivial),kr rfl]
  rw [e] at hfit
  exact zP hfit
 ·rw [kj.mp h,show zG "swap"=some "swapped" by trivial] at hs
  cases hs
  have e:jz "swapped" r.arg=jZ r.arg:=by
   unfold jz
   rw [kq (by trivial),kq (by trivial),kq (by trivial),kr rfl]
  rw [e] at hfit
  obtain ⟨n,h1,h2,h3⟩:=zP hfit
  exact ⟨n,h1,by lia,h3⟩
theorem jo {K:ko} {H H':Hp} {a:Addr} {xs:List V} (s:Same H H') (h:SqT K H a xs):SqT K H' a xs:=by
 rcases h with (h | ⟨o,h⟩) | h
 ·exact .inl (.inl (s _ _ h))
 ·exact .inl (.inr ⟨o,s _ _ h⟩)
 ·exact .inr h
section
def spUp (K:ko):Sp:=fun vs H Q _=>∃(g:Addr) (as:List Addr),vs=[.ref g]∧SqT K H g (as.map V.ref)∧((as=[]∧Q .non H)∨∃bs a,as=bs++[a]∧Q (.ref a) H)
theorem sc43:zh ["guards"] ["guards"] (zd (top 43)):=fsM
theorem z5L (D:zo K mg "uppermost" (top 43)):FN P w K mg base 1 "uppermost" ["guards"] (spUp K):=by
 refine FN.o D sc43 fun f cdv A outer s H vs Q E hr h=>?_
 obtain ⟨g,as,rfl,hS,q⟩:=h
 refine ⟨_,ze (zi (js (Z2 (pv 0) (fun _=>rfl)) (zC zV (pv 0) (z03 ZC zf) (fun _ _=>rfl)) qA)),?_⟩
 rcases q with ⟨rfl,q⟩ | ⟨bs,a,rfl,q⟩
 ·exact ⟨_,rfl,false,.inr (.inl ⟨_,hS,rfl⟩),iteF q⟩
 ·refine ⟨_,rfl,true,.inr (.inl ⟨_,hS,by simp⟩),iteT ⟨_,rfl,1,rfl,g,_,_,.ref a,rfl,rfl,hS,?_,q⟩⟩
  rw [kD]
  exact Qf _ _
def J3:Sp:=fun vs H Q _=>∃a r,vs=[.ref a]∧H a=some (.tup (tupV r))∧jB r∧∀H',Same H H'→Q (.int (qH r)) H'
theorem sc44:zh ["row","op","arg"] ["row"] (zd (top 44)):=fsM
theorem z2P (D:zo K mg "depth_asked" (top 44)) (T:z31 w K mg):FN P w K mg base 1 "depth_asked" ["row"] J3:=by
 refine FN.o D sc44 fun f cdv A outer s H vs Q E hr h=>?_
 obtain ⟨a,r,rfl,ha,hok,q⟩:=h
 obtain ⟨d,md,td⟩:=T.takes
 refine ⟨_,zb (JA (i:=1) (j:=2) rfl sc44.nd rfl rfl (by decide) rfl rfl (z0 (zC zV (pv 0) zf (fun _ _=>rfl)) (z0 (zC zV (pv 0) zf (fun _ _=>rfl)) z7)) rfl)
  (ze (zi (js (zq qK (pv 1) (qz (z0 zY (z0 zY z7))) rfl) (pv 2) (Z3 td rfl md (pv 1) zf ⟨rfl,rfl,rfl,rfl⟩)))),?_⟩
 refine ⟨_,rfl,a,_,_,_,rfl,rfl,SqT.of ha,zj (j:=0) rfl,_,rfl,a,_,_,_,rfl,rfl,SqT.of ha,zj (j:=1) rfl,_,_,rfl,?_⟩
 refine ⟨_,rfl,by show 2≤sizeLine;decide,fun p hp=>?_⟩
 have s1:=zg hp (.tup (qJ.map V.str))
 refine ⟨p,_,rfl,.inr (SqT.of (xs:=qJ.map V.str) z6),rfl,j9 _,_,rfl,?_⟩
 have q:=q _ s1
 unfold qH at q
 refine ite2 (fun c=>?_) (fun c=>?_)
 ·have c':inT r.op qJ=true:=c
  obtain ⟨n,en,_⟩:=z0q hok c'
  rw [kr c',en] at q
  refine ⟨r.arg,rfl,?_⟩
  rw [en]
  exact q
 ·have c':¬inT r.op qJ=true:=c
  rw [kq c'] at q
  refine ⟨_,rfl,r.op,rfl,?_⟩
  rw [jx]
  exact q
def J1:Sp:=fun vs H Q _=>∃a r d,vs=[.ref a,.int d]∧H a=some (.tup (tupV r))∧jB r∧∀H',Same H H'→Q (.bl (decide (d < qH r))) H'
theorem sc45:zh ["row","depth"] ["row","depth"] (zd (top 45)):=fsM
theorem z2M (D:zo K mg "lacks_values" (top 45)) (F1:FN P w K mg base 1 "depth_asked" ["row"] J3):FN P w K mg base 2 "lacks_values" ["row","depth"] J1:=by
 refine FN.o D sc45 fun f cdv A outer s H vs Q E hr h=>?_
 obtain ⟨a,r,d,rfl,ha,hok,q⟩:=h
 refine ⟨_,ze (zi (qe z4P (pv 1) (zt F1 hr rfl (z0 (pv 0) z7)) (zu _))),?_⟩
 exact ⟨_,rfl,_,rfl,a,r,rfl,ha,hok,fun H' s'=>⟨_,_,rfl,rfl,q H' s'⟩⟩
def J2:Sp:=fun vs H Q _=>∃a r gv og,vs=[.ref a,gv]∧H a=some (.tup (tupV r))∧ja H gv og∧Q (.bl (ZA r og)) H
theorem sc46:zh ["row","guard"] ["row","guard"] (zd (top 46)):=fsM
theorem z1w {H:Hp} {x:V} {og:Option Gd} (h:ja H x og):decide (x=.non)=og.isNone:=by
 cases og with
 | none=>rw [show x=.non from h];rfl
 | some g=>obtain ⟨a,e,_⟩:=h;rw [e];rfl
theorem z2N (D:zo K mg "lacks_guard" (top 46)):FN P w K mg base 1 "lacks_guard" ["row","guard"] J2:=by
 refine FN.o D sc46 fun f cdv A outer s H vs Q E hr h=>?_
 obtain ⟨a,r,gv,og,rfl,ha,hg,q⟩:=h
 refine ⟨_,ze (zi (qR (qe jV (zC zV (pv 0) zf (fun _ _=>rfl)) zY (zu _)) (j5 (qe Qt (pv 1) qA (zu _))))),?_⟩
 refine ⟨_,rfl,a,_,_,_,rfl,rfl,SqT.of ha,zj (j:=0) rfl,rfl,_,rfl,?_⟩
 unfold ZA at q
 rw [←z1w hg] at q
 refine ite2 (fun c=>?_) (fun c=>?_)
 ·have e:r.op="endtry":=by have:=kw c;injection this
  rw [kf e,Bool.true_and] at q
  exact ⟨_,rfl,rfl,q⟩
 ·have e:¬r.op="endtry":=fun z=>c (by rw [z];rfl)
  rw [ke e,Bool.false_and] at q
  exact q
def Qj:Sp:=fun vs H Q _=>∃a r d gv og,vs=[.ref a,.int d,gv]∧H a=some (.tup (tupV r))∧jB r∧ja H gv og∧∀H',Same H H'→Q (.bl (jk r d og)) H'
theorem sc47:zh ["row","depth","guard","lowest"] ["row","depth","guard"] (zd (top 47)):=fsM
theorem JV:bootBuiltins "max"=some (.builtin "max"):=by trivial
theorem z2Z:bootBuiltins "min"=some (.builtin "min"):=by trivial
theorem z0k (D:zo K mg "takes_beneath" (top 47)) (G:Glo mg) (F1:FN P w K mg base 1 "depth_asked" ["row"] J3):FN P w K mg base 2 "takes_beneath" ["row","depth","guard"] Qj:=by
 refine FN.o D sc47 fun f cdv A outer s H vs Q E hr h=>?_
 obtain ⟨a,r,d,gv,og,rfl,ha,hok,hg,q⟩:=h
 refine ⟨_,zb (qc (PW.pt (Qn (zq Qt (pv 2) qA (zu _)) (Zg (zq jV (zC zV (pv 0) zf (fun _ _=>rfl)) zY (zu _))))) (ze (zi jI)) zA)
  (zb (zw (i:=3) sc47.nd rfl (Or.inl rfl) (zl (z1Z rfl) rfl G.max JV (z0 zf (z0 (zI Zj (pv 1) (zt F1 hr rfl (z0 (pv 0) z7))) z7))))
  (ze (zi (qe z4P (pv 3) (zl (z1X rfl) rfl G.min z2Z (z0 (pv 1) (z0 (zC zV (pv 2) zf (fun _ _=>rfl)) z7))) (zu _))))),?_⟩
 refine ⟨_,rfl,rfl,_,rfl,?_⟩
 cases og with
 | none=>
  have e:gv=.non:=hg
  subst e
  exact iteT (iteT (q H (Same.refl _)))
 | some g=>
  obtain ⟨ga,rfl,hga⟩:=hg
  refine iteF ⟨_,rfl,a,_,_,_,rfl,rfl,SqT.of ha,zj (j:=0) rfl,rfl,_,rfl,?_⟩
  unfold jk at q
  refine ite2 (fun c=>?_) (fun c=>?_)
  ·have e:r.op="copy":=by have:=kw c;injection this
   simp only [kr e] at q
   exact q H (Same.refl _)
  ·have e:¬r.op="copy":=fun z=>c (by rw [z];rfl)
   simp only [kq e] at q
   refine ⟨_,rfl,_,rfl,a,r,rfl,ha,hok,fun H' s'=>⟨_,_,rfl,rfl,_,_,rfl,?_⟩⟩
   exact ⟨_,rfl,_,rfl,_,rfl,ga,_,_,_,rfl,rfl,SqT.of (s' _ _ hga),zj (j:=1) rfl,_,_,rfl,_,_,rfl,rfl,q H' s'⟩
end
theorem PS.imp {X:Cx} {st:Stmt} {t t':TS} (h:PS X st t) (hi:∀D σ H,t' D σ H→t D σ H):PS X st t':=fun pins s σ H D I q=>h pins s σ H D I (hi D σ H q)
abbrev Mv:=V × Int × Int
abbrev jl (H:Hp):List Addr→List Mv→Prop:=Paired fun t m=>H t=some (.tup [m.1,.int m.2.1,.int m.2.2])
theorem jl.same {H H':Hp} {ts:List Addr} {ms:List Mv} (h:jl H ts ms) (k:∀a xs,H a=some (.tup xs)→H' a=some (.tup xs)):jl H' ts ms:=Paired.mapP h fun _ _ e=>k _ _ e
theorem jl.append {H:Hp} {as bs:List Addr} {rs ts:List Mv} (h:jl H as rs) (k:jl H bs ts):jl H (as++bs) (rs++ts):=JB h k
theorem jl.get {H:Hp} {as:List Addr} {rs:List Mv} {i:Nat} {x:V} (h:jl H as rs) (e:(as.map V.ref)[i]?=some x):∃a r,x=.ref a∧rs[i]?=some r∧H a=some (.tup [r.1,.int r.2.1,.int r.2.2]):=z0X h e
noncomputable def zM (r:Row) (d:Int):Int:=d - tabI qt r.op+tabI qy r.op
noncomputable def labV (rs:List Row) (m:Int):V:=match zy rs m with
 | some j=>.int (j:Nat)
 | none=>.non
noncomputable def argM (x:V):Int:=match x with
 | .int m=>m
 | _=>0
noncomputable def mv1 (r:Row) (place:Nat) (d:Int):List Mv:=if inT r.op zO=true then [] else [(.int ((place:Int)+1),zM r d,tabI zT r.op)]
noncomputable def mv2 (rs:List Row) (r:Row) (d:Int):List Mv:=if inT r.op jumping=true then [(labV rs (argM r.arg),if inT r.op leaving=true then d else zM r d,0)] else []
noncomputable def mv3 (rs:List Row) (r:Row) (og:Option Gd):List Mv:=if inT r.op faulting=true then (match og with | some g=>[(labV rs g.1,g.2+1,-1)] | none=>[]) else []
noncomputable def qk (rs:List Row) (place:Nat) (r:Row) (d:Int) (og:Option Gd):List Mv:=if decide (d < qH r)=true then [] else if ZA r og=true then [] else mv1 r place d++mv2 rs r d++mv3 rs r og
theorem z2w {rs:List Row} {i:Nat} {r:Row} (hc:Code rs) (hr:rs[i]?=some r) (h:inT r.op jumping=true):∃(m:Int) (j:Nat),r.arg=.int m∧zy rs m=some j:=by
 have hok:=hc.ok r (kA hr)
 obtain ⟨s,hs,hfit,_⟩:=hok.parts
 have hm:zG r.op=some ("mark":Str)∧r.op≠"label":=by
  rw [z1t] at h
  have all:∀x∈jumping,zG x=some ("mark":Str)∧x≠"label":=by trivial
  exact all _ h
 rw [hm.1] at hs
 cases hs
 obtain ⟨m,em,_,_⟩:=ju hfit
 have hf:=hc.fit i r hr
 unfold qS at hf
 rw [kq hm.2,kr hm.1,em] at hf
 obtain ⟨j,hj⟩:=Option.isSome_iff_exists.mp hf
 exact ⟨m,j,em,hj⟩
def sMv (σ0:Addr→L2.St) (Hin:Hp) (new:List Mv):TS:=fun D σ H=>∃(fa:Addr) (ts:List Addr) (ms:List Mv),σ=σ0 fa∧Hin fa=none∧Same Hin H∧H fa=some (.lst (ts.map V.ref))∧jl H ts ms∧ts.length≤100∧
 ∀H' ts',Same Hin H'→H' fa=some (.lst (ts'.map V.ref))→jl H' ts' (ms++new)→ts'.length≤ts.length+1→D.nx (σ0 fa) H'
theorem z1g {Hin H:Hp} {fa p:Addr} {ts:List Addr} {ms:List Mv} {m:Mv} (hn:Hin fa=none) (sm:Same Hin H) (hf:H fa=some (.lst (ts.map V.ref))) (hM:jl H ts ms) (hp:H p=none):
  Same Hin (upd (upd H p (.tup [m.1,.int m.2.1,.int m.2.2])) fa (.lst (ts.map V.ref++[.ref p])))∧upd (upd H p (.tup [m.1,.int m.2.1,.int m.2.2])) fa (.lst (ts.map V.ref++[.ref p])) fa=some (.lst ((ts++[p]).map V.ref))∧
   jl (upd (upd H p (.tup [m.1,.int m.2.1,.int m.2.2])) fa (.lst (ts.map V.ref++[.ref p]))) (ts++[p]) (ms++[m]):=by
 have npf:p≠fa:=(z8 hf hp).symm
 have kt:∀a xs,(upd H p (.tup [m.1,.int m.2.1,.int m.2.2])) a=some (.tup xs)→(upd (upd H p (.tup [m.1,.int m.2.1,.int m.2.2])) fa (.lst (ts.map V.ref++[.ref p]))) a=some (.tup xs):=fun a xs e=>by
  rw [zc (fun z=>by rw [z,zc npf.symm,hf] at e;cases e)];exact e
 refine ⟨fun b o e=>?_,?_,jl.append ((hM.same fun a xs e=>?_).same kt) (.cons ?_ .nil)⟩
 ·have e2:=sm b o e
  rw [zc (z8 e hn),zc (z8 e2 hp)]
  exact e2
 ·rw [z6,kD]
  rfl
 ·rw [zc (z8 e hp)];exact e
 ·exact kt _ _ z6
section
structure QU (K:ko) (H:Hp) (l d:Addr) (rs:List Row):Prop where
 rows:∃as,SqL K H l (as.map V.ref)∧zp H as rs
 code:Code rs
 labs:∃kvs,H d=some (.dK kvs)∧Zw kvs rs
theorem zp.get' {H:Hp} {as:List Addr} {rs:List Row} {i:Nat} {r:Row} (h:zp H as rs) (e:rs[i]?=some r):∃a,(as.map V.ref)[i]?=some (.ref a)∧H a=some (.tup (tupV r)):=by
 have hi:i < rs.length:=(kd.mp e).1
 obtain ⟨a,r',h1,h2,h3⟩:=zp.get (i:=i) (x:=(as.map V.ref)[i]'(by rw [kg,h.len];exact hi)) h (kE _)
 rw [e] at h2
 cases h2
 exact ⟨a,by rw [←h1];exact kE _,h3⟩
def J0 (K:ko):Sp:=fun vs H Q _=>∃l d place dep gv og rs r,vs=[.ref l,.ref d,.int (place:Nat),.int dep,gv]∧QU K H l d rs∧rs[place]?=some r∧ja H gv og∧
 ∀f ts H',Same H H'→H f=none→H' f=some (.lst (ts.map V.ref))→jl H' ts (qk rs place r dep og)→Q (.ref f) H'
theorem sc48:zh ["code","labels","place","depth","guard","row","op","arg","behind","found"] ["code","labels","place","depth","guard"] (zd (top 48)):=fsM
theorem z2K (D:zo K mg "moves" (top 48)) (T:z31 w K mg) (FV:FN P w K mg base 2 "lacks_values" ["row","depth"] J1) (FG:FN P w K mg base 1 "lacks_guard" ["row","guard"] J2):
  FN P w K mg base 3 "moves" ["code","labels","place","depth","guard"] (J0 K):=by
 refine FN.o D sc48 fun f cdv A outer s H vs Q E hr h=>?_
 obtain ⟨l,d,place,dep,gv,og,rs,r,rfl,hC,hrp,hg,q⟩:=h
 have hu:=z2z hr
 obtain ⟨⟨as,hS,hR⟩,hc,kvs,hd,hL⟩:=id hC
 obtain ⟨ra,hra,har⟩:=hR.get' hrp
 have hro:=hc.ok r (kA hrp)
 obtain ⟨d1,md1,td1⟩:=T.takes
 obtain ⟨d2,md2,td2⟩:=T.pushes
 obtain ⟨d3,md3,td3⟩:=T.gput
 obtain ⟨a1,ma1,ta1⟩:=T.never
 obtain ⟨a2,ma2,ta2⟩:=T.jumping
 obtain ⟨a3,ma3,ta3⟩:=T.leaving
 obtain ⟨a4,ma4,ta4⟩:=T.faulting
 let σ0:Addr→L2.St:=fun fa=>[some (.ref l),some (.ref d),some (.int (place:Nat)),some (.int dep),some gv,some (.ref ra),some (.str r.op),some r.arg,some (.int (zM r dep)),some (.ref fa)]
 refine ⟨_,zb (zw (i:=5) sc48.nd rfl (Or.inl rfl) (zC zE (pv 0) (pv 2) (fun _ _=>rfl)))
  (zb (JA (i:=6) (j:=7) rfl sc48.nd rfl rfl (by decide) rfl rfl (z0 (zC zV (pv 5) zf (fun _ _=>rfl)) (z0 (zC zV (pv 5) zf (fun _ _=>rfl)) z7)) rfl)
  (zb (qc (PW.pt (Qn (qY (zt FV hr rfl (z0 (pv 5) (z0 (pv 3) z7)))) (Zg (qY (zt FG (hr.mono (by decide)) rfl (z0 (pv 5) (z0 (pv 4) z7))))))) (ze (zi (qr z7))) zA)
  (zb (zw (i:=8) sc48.nd rfl (Or.inl rfl) (zI qL (zI Zj (pv 3) (Z3 td1 rfl md1 (pv 6) zf ⟨rfl,rfl,rfl,rfl⟩)) (Z3 td2 rfl md2 (pv 6) zf ⟨rfl,rfl,rfl,rfl⟩)))
  (zb (zw (i:=9) sc48.nd rfl (Or.inl rfl) (qr z7))
  (zb (PS.imp (t':=sMv σ0 H (mv1 r place dep)) (qc (zq j6 (pv 6) (jH rfl ma1 (v:=.ref a1) rfl) rfl) (ze (zQ (Qr (pv 9)
    (z0 (qz (z0 (zI qL (pv 2) zf) (z0 (pv 8) (z0 (Z3 td3 rfl md3 (pv 6) zf ⟨rfl,rfl,rfl,rfl⟩) z7)))) z7)))) zA) ?m1)
  (zb (PS.imp (t':=sMv σ0 H (mv2 rs r dep)) (qc (zq qK (pv 6) (jH rfl ma2 (v:=.ref a2) rfl) rfl) (ze (zQ (Qr (pv 9)
    (z0 (qz (z0 (J7 hu (pv 1) (pv 7) (fun _ _=>rfl)) (z0 (js (zq qK (pv 6) (jH rfl ma3 (v:=.ref a3) rfl) rfl) (pv 3) (pv 8)) (z0 zf z7)))) z7)))) zA) ?m2)
  (zb (PS.imp (t':=sMv σ0 H (mv3 rs r og)) (qc (PW.pt (Jy (zq qK (pv 6) (jH rfl ma4 (v:=.ref a4) rfl) rfl) (ZT (zq ZZ (pv 4) qA (zu _))))) (ze (zQ (Qr (pv 9)
    (z0 (qz (z0 (z2m hu (pv 1) (zC zV (pv 4) zf (fun _ _=>rfl)) ⟨rfl,rfl,rfl,rfl⟩) (z0 (zI qL (zC zV (pv 4) zf (fun _ _=>rfl)) zf) (z0 (z03 ZC zf) z7)))) z7)))) zA) ?m3)
  (ze (zi (pv 9)))))))))),?_⟩
 case m1=>
  rintro D σ H1 ⟨fa,ts,ms,rfl,hn,sm,hf,hM,hl,k⟩
  refine ⟨_,rfl,a1,_,rfl,.inr (ta1.sq _),rfl,j9 _,_,rfl,?_⟩
  unfold mv1 at k
  refine ite2 (fun c=>?_) (fun c=>?_)
  ·have c':¬inT r.op zO=true:=by
    intro z
    have c:(!inT r.op zO)=true:=c
    rw [z] at c;cases c
   rw [kq c'] at k
   refine ⟨_,rfl,.inl ⟨rfl,_,SqL.of hf⟩,_,rfl,_,_,rfl,rfl,_,rfl,_,rfl,r.op,rfl,by show 3≤sizeLine;decide,fun p hp=>?_⟩
   rw [jx]
   obtain ⟨k1,k2,k3⟩:=z1g (m:=(.int ((place:Int)+1),zM r dep,tabI zT r.op)) hn sm hf hM hp
   exact ⟨fa,_,.ref p,rfl,rfl,by rw [zc (z8 hf hp)];exact hf,qj (by rw [kg];lia),k _ _ k1 k2 k3 (by simp)⟩
  ·have c':inT r.op zO=true:=by
    cases z:inT r.op zO with
    | true=>rfl
    | false=>exact absurd (show (!inT r.op zO)=true by rw [z];rfl) c
   rw [kr c'] at k
   exact k H1 ts sm hf (by rw [kN];exact hM) (by lia)
 case m2=>
  rintro D σ H1 ⟨fa,ts,ms,rfl,hn,sm,hf,hM,hl,k⟩
  refine ⟨_,rfl,a2,_,rfl,.inr (ta2.sq _),rfl,j9 _,_,rfl,?_⟩
  unfold mv2 at k
  refine ite2 (fun c=>?_) (fun c=>?_)
  ·have c':inT r.op jumping=true:=c
   rw [kr c'] at k
   obtain ⟨m,j,em,hj⟩:=z2w hc hrp c'
   have hv:valV kvs (Sum.inl m:Key)=some (.int (j:Int)):=by rw [hL m,hj];rfl
   have hgt:DGet H1 d r.arg (some (.int (j:Int))):=by rw [em,←hv];exact DGet.k (k:=Sum.inl m) (sm _ _ hd)
   refine ⟨_,rfl,.inl ⟨rfl,_,SqL.of hf⟩,_,rfl,_,rfl,d,_,rfl,hgt,_,rfl,a3,_,rfl,.inr (ta3.sq _),rfl,j9 _,_,rfl,?_⟩
   have el:labV rs (argM r.arg)=.int (j:Nat):=by
    rw [em]
    show labV rs m=_
    unfold labV
    rw [hj]
   rw [el] at k
   have fin:∀x:Int,(if inT r.op leaving=true then dep else zM r dep)=x→∀p,H1 p=none→J4 (.ref fa) [.ref p] (upd H1 p (.tup [.int (j:Nat),.int x,.int 0])) (fun _ H2=>D.nx (σ0 fa) H2):=fun x ex p hp=>by
    rw [ex] at k
    obtain ⟨k1,k2,k3⟩:=z1g (m:=(.int (j:Nat),x,0)) hn sm hf hM hp
    exact ⟨fa,_,.ref p,rfl,rfl,by rw [zc (z8 hf hp)];exact hf,qj (by rw [kg];lia),k _ _ k1 k2 k3 (by simp)⟩
   refine ite2 (fun c2=>?_) (fun c2=>?_)
   ·have c2':inT r.op leaving=true:=c2
    exact ⟨_,rfl,by show 3≤sizeLine;decide,fin dep (kr c2')⟩
   ·have c2':¬inT r.op leaving=true:=c2
    exact ⟨_,rfl,by show 3≤sizeLine;decide,fin _ (kq c2')⟩
  ·have c':¬inT r.op jumping=true:=c
   rw [kq c'] at k
   exact k H1 ts sm hf (by rw [kN];exact hM) (by lia)
 case m3=>
  rintro D σ H1 ⟨fa,ts,ms,rfl,hn,sm,hf,hM,hl,k⟩
  refine ⟨_,rfl,a4,_,rfl,.inr (ta4.sq _),rfl,j9 _,_,rfl,?_⟩
  unfold mv3 at k
  refine ite2 (fun c=>?_) (fun c=>?_)
  ·have c':inT r.op faulting=true:=c
   rw [kr c'] at k
   have hg1:=hg.same sm
   refine ⟨_,rfl,rfl,_,rfl,?_⟩
   cases og with
   | none=>
    have e:gv=.non:=hg
    rw [e]
    exact iteF (k H1 ts sm hf (by rw [kN];exact hM) (by lia))
   | some g=>
    obtain ⟨ga,eg,hga⟩:=hg1
    rw [ke (show ¬gv=.non by rw [eg];exact nofun)]
    have hgt:DGet H1 d (.int g.1) (valV kvs (Sum.inl g.1:Key)):=DGet.k (k:=Sum.inl g.1) (sm _ _ hd)
    have ev:(valV kvs (Sum.inl g.1:Key)).getD .non=labV rs g.1:=by
     rw [hL]
     unfold labV
     cases zy rs g.1 <;> rfl
    have eσ:(σ0 fa)[4]?=some (some (.ref ga)):=by rw [←eg];rfl
    refine iteT ⟨_,rfl,.inl ⟨rfl,_,SqL.of hf⟩,_,rfl,d,rfl,.inl ⟨kvs,.inl (sm _ _ hd)⟩,_,eσ,ga,_,_,_,rfl,rfl,SqT.of hga,zj (j:=0) rfl,_,hgt,_,eσ,ga,_,_,_,rfl,rfl,SqT.of hga,zj (j:=1) rfl,_,_,rfl,rfl,1,rfl,by show 3≤sizeLine;decide,fun p hp=>?_⟩
    rw [ev]
    obtain ⟨k1,k2,k3⟩:=z1g (m:=(labV rs g.1,g.2+1,-1)) hn sm hf hM hp
    exact ⟨fa,_,.ref p,rfl,rfl,by rw [zc (z8 hf hp)];exact hf,qj (by rw [kg];lia),k _ _ k1 k2 k3 (by simp)⟩
  ·have c':¬inT r.op faulting=true:=c
   rw [kq c'] at k
   exact iteF (k H1 ts sm hf (by rw [kN];exact hM) (by lia))
 refine ⟨_,rfl,_,rfl,l,_,_,_,rfl,rfl,hS,zj hra,?_⟩
 refine ⟨_,rfl,ra,_,_,_,rfl,rfl,SqT.of har,zj (j:=0) rfl,_,rfl,ra,_,_,_,rfl,rfl,SqT.of har,zj (j:=1) rfl,_,_,rfl,?_⟩
 refine ⟨_,rfl,_,rfl,ra,r,dep,rfl,har,hro,fun H1 s1=>⟨_,rfl,?_⟩⟩
 have empty:∀H2,Same H H2→qk rs place r dep og=[]→∀p,H2 p=none→Q (.ref p) (upd H2 p (.lst [])):=fun H2 s2 e p hp=>by
  refine q p [] _ (My.Same.upd s2 (s2.free hp) _) (s2.free hp) z6 ?_
  rw [e]
  exact .nil
 unfold qk at q empty
 refine ite2 (fun c=>?_) (fun c=>?_)
 ·rw [kr c] at empty
  exact iteT ⟨by show 0≤sizeLine;decide,empty H1 s1 rfl⟩
 ·rw [kq c] at q empty
  refine ⟨_,rfl,_,rfl,ra,r,gv,og,rfl,s1 _ _ har,hg.same s1,_,rfl,?_⟩
  refine ite2 (fun c2=>?_) (fun c2=>?_)
  ·rw [kr c2] at empty
   exact ⟨by show 0≤sizeLine;decide,empty H1 s1 rfl⟩
  ·rw [kq c2] at q
   refine ⟨_,rfl,_,rfl,r.op,rfl,?_⟩
   rw [jx]
   refine ⟨_,_,rfl,rfl,_,rfl,r.op,rfl,?_⟩
   rw [jx]
   refine ⟨_,_,rfl,rfl,by show 0≤sizeLine;decide,fun fa hfa=>?_⟩
   have hn:=s1.free hfa
   refine ⟨fa,[],[],rfl,hn,My.Same.upd s1 hn _,z6,.nil,by simp,fun H3 t3 s3 f3 M3 z3=>?_⟩
   refine ⟨fa,t3,_,rfl,hn,s3,f3,M3,by simp at z3;lia,fun H4 t4 s4 f4 M4 z4=>?_⟩
   refine ⟨fa,t4,_,rfl,hn,s4,f4,M4,by simp at z3;lia,fun H5 t5 s5 f5 M5 z5=>?_⟩
   exact ⟨_,rfl,q fa t5 H5 s5 hn f5 (by simpa using M5)⟩
end
theorem ZV {X:Cx} {pos:Pos} {K:ko} {es:List Expr} {k:Nat} {t:TGs} {n:Nat} (hK:X.K=K) (hc:X.calm=true) (h:PGs X es t)
  (hn:autoParam ((assignEach es X.env).length=n) aR._auto_1) (hst:autoParam ((assignEach es X.env).findIdx? (·.1)=none) aR._auto_1):PG X (.Tuple es k pos) (gTup K n t):=by
 subst hK
 exact jr hc h hn hst
theorem jD {σ:L2.St} {H:Hp} {F G:Hp→Prop} (h:F H):tAll σ H (fun b H5=>if b=true then F H5 else G H5):=by
 show (if true=true then F H else G H)
 rw [kr rfl]
 exact h
theorem nd3:(["goal","deeper","more"]:List Str).Nodup:=by trivial
theorem nd2:(["word","is_lacking"]:List Str).Nodup:=by trivial
theorem qh.plain {X:Cx} {N:List Str} {nt:Nat} {scope:Scope} (nofree:∀y∈scope.names,y.2≠.free) (nocell:∀y∈scope.names,y.2≠.cell) (kind:scope.kind=.function) (names:∀y∈scope.names,y.2=.local→scope.names.lookup y.1=some .local) (hl:N.length=nt):qh X N nt [] scope [] where
 clos:=closureFor_none nofree
 nocell:=nocell
 kind:=kind
 names:=names
 sub:=fun _ _ e=>nomatch e
 has:=fun x h=>by
  rw [z01 nofree] at h
  rcases h with h | h
  ·exact absurd h (Qw nocell x)
  ·exact absurd h (Qw nofree x)
 len:=by rw [hl];rfl
 free:=fun j x e=>by
  rw [List.getElem?_eq_none (by lia)] at e
  cases e
theorem qw {K:ko} {a:Addr} {xs:List V} {g:TG} {tc:TT} {te:TE} {R:Hp→Prop} {H:Hp} {l:Addr} {σ0:L2.St} (Pv:Nat→List V→L2.St→Hp→Prop) (h0:Pv 0 [] σ0 (upd H l (.lst []))) (hl:∀i ys σ H,i≤xs.length→Pv i ys σ H→SqL K H a xs)
  (hs:∀i x ys σ H,xs[i]?=some x→Pv i ys σ H→g x σ H fun σ2 H4=>tc σ2 H4 fun b H5=>if b=true then te σ2 H5 fun v H6=>H6 l=some (.lst ys)∧ys.length < sizeLine∧∃m',m' < xs.length - i∧m'=xs.length - (i+1)∧i+1≤xs.length∧Pv (i+1) (ys++[v]) σ2 (upd H6 l (.lst (ys++[v])))
   else ∃m',m' < xs.length - i∧m'=xs.length - (i+1)∧i+1≤xs.length∧Pv (i+1) ys σ2 H5) (hd:∀ys σ H,Pv xs.length ys σ H→R H):
  ∃W:Nat→Nat→List V→L2.St→Hp→Prop,(∃m,W 0 m [] σ0 (upd H l (.lst [])))∧∀i m ys σ' H2,W i m ys σ' H2→
   ((Itl K a).stop i H2∧R H2)∨((Itl K a).go i H2∧∀x H3,(Itl K a).yld i H2 x H3→g x σ' H3 fun σ2 H4=>tc σ2 H4 fun b H5=>if b=true then te σ2 H5 fun v H6=>H6 l=some (.lst ys)∧ys.length < sizeLine∧∃m',m' < m∧W (i+1) m' (ys++[v]) σ2 (upd H6 l (.lst (ys++[v])))
    else ∃m',m' < m∧W (i+1) m' ys σ2 H5):=by
 refine ⟨fun i m ys σ H=>m=xs.length - i∧i≤xs.length∧Pv i ys σ H,⟨xs.length,by simp,Nat.zero_le _,h0⟩,?_⟩
 rintro i m ys σ H ⟨rfl,hi,p⟩
 have q:=hl i ys σ H hi p
 by_cases hlt:i < xs.length
 ·refine .inr ⟨⟨xs,xs[i],q,by simp [hlt]⟩,fun x H' y=>?_⟩
  obtain ⟨e,y⟩:=y
  subst e
  exact hs i x ys σ _ (y xs q) p
 ·have e:i=xs.length:=by lia
  subst e
  exact .inl ⟨⟨xs,q,kc _⟩,hd ys σ H p⟩
theorem z0r {a l:Addr} {kvs:List (Key × V)} {o:Obj} {g:TG} {tc:TT} {te:TE} {Q:VK} {H:Hp} {σ0:L2.St} (Pv:Nat→List V→L2.St→Hp→Prop) (h0:Pv 0 [] σ0 (upd H l (.lst []))) (hf:∀i ys σ H,Pv i ys σ H→H a=some (.frz o (.dK kvs)))
  (hs:∀i p k v ys σ H,kvs[i]?=some (k,v)→Pv i ys σ H→H p=none→g (.ref p) σ (upd H p (.tup [kV k,v])) fun σ2 H4=>tc σ2 H4 fun b H5=>if b=true then te σ2 H5 fun v H6=>H6 l=some (.lst ys)∧ys.length < sizeLine∧∃m',m' < kvs.length - i∧m'=kvs.length - (i+1)∧i+1≤kvs.length∧Pv (i+1) (ys++[v]) σ2 (upd H6 l (.lst (ys++[v])))
   else ∃m',m' < kvs.length - i∧m'=kvs.length - (i+1)∧i+1≤kvs.length∧Pv (i+1) ys σ2 H5) (hd:∀ys σ H,Pv kvs.length ys σ H→Q (.ref l) (upd H a (.dK kvs))):
  ∃W:Nat→Nat→List V→L2.St→Hp→Prop,(∃m,W 0 m [] σ0 (upd H l (.lst [])))∧∀i m ys σ' H2,W i m ys σ' H2→
   H2 a=some (.frz o (.dK kvs))∧(kvs.length≤i→Q (.ref l) (upd H2 a (.dK kvs)))∧(∀p k v,kvs[i]?=some (k,v)→H2 p=none→g (.ref p) σ' (upd H2 p (.tup [kV k,v])) fun σ2 H4=>tc σ2 H4 fun b H5=>if b=true then te σ2 H5 fun v H6=>H6 l=some (.lst ys)∧ys.length < sizeLine∧∃m',m' < m∧W (i+1) m' (ys++[v]) σ2 (upd H6 l (.lst (ys++[v])))
    else ∃m',m' < m∧W (i+1) m' ys σ2 H5):=by
 refine ⟨fun i m ys σ H=>m=kvs.length - i∧i≤kvs.length∧Pv i ys σ H,⟨kvs.length,by simp,Nat.zero_le _,h0⟩,?_⟩
 rintro i m ys σ H ⟨rfl,hi,p⟩
 refine ⟨hf i ys σ H p,fun hle=>?_,fun p' k v hkv hp=>hs i p' k v ys σ H hkv p hp⟩
 have e:i=kvs.length:=by lia
 subst e
 exact hd ys σ H p
noncomputable def Z8 (rs:List Row) (place:Nat) (r:Row) (d:Int) (og:Option Gd):List (Str × Bool):=
 [("takes",decide (d < qH r)),("guard",ZA r og),("beneath",jk r d og),("end",inV (.int (rs.length:Nat)) ((qk rs place r d og).map (·.1)))]
noncomputable def Z7 (rs:List Row) (place:Nat) (r:Row) (d:Int) (og:Option Gd):List Str:=((Z8 rs place r d og).filter (·.2)).map (·.1)
theorem Qy (rs:List Row) (m:Int):qI (labV rs m)=true:=by
 unfold labV
 cases zy rs m <;> rfl
theorem z08 (rs:List Row) (place:Nat) (r:Row) (d:Int) (og:Option Gd):((qk rs place r d og).map (·.1)).all qI=true:=by
 rw [List.all_map,List.all_eq_true]
 intro m hm
 unfold qk at hm
 split at hm
 ·cases hm
 ·split at hm
  ·cases hm
  ·rcases kL.mp hm with hm | hm
   ·rcases kL.mp hm with hm | hm
    ·unfold mv1 at hm
     split at hm
     ·cases hm
     ·rw [kj.mp hm];rfl
    ·unfold mv2 at hm
     split at hm
     ·rw [kj.mp hm];exact Qy _ _
     ·cases hm
   ·unfold mv3 at hm
    split at hm
    ·cases og with
     | none=>cases hm
     | some g=>rw [kj.mp hm];exact Qy _ _
    ·cases hm
noncomputable def kvs4 (wb:List (Str × Bool)):List (Key × V):=wb.map fun p=>(Sum.inr p.1,V.bl p.2)
theorem z4U (a b c d:Bool):jN [] (kvs4 [("takes",a),("guard",b),("beneath",c),("end",d)])=kvs4 [("takes",a),("guard",b),("beneath",c),("end",d)]:=by rfl
section
def z0F (K:ko):Sp:=fun vs H Q _=>∃l d place dep gv og rs r,vs=[.ref l,.ref d,.int (place:Nat),.int dep,gv]∧QU K H l d rs∧rs[place]?=some r∧ja H gv og∧
 ∀f H',Same H H'→H f=none→H' f=some (.lst ((Z7 rs place r dep og).map V.str))→Q (.ref f) H'
theorem sc49:zh ["code","labels","place","depth","guard","row","goals","found"] ["code","labels","place","depth","guard"] (zd (top 49)):=fsM
theorem z2H (D:zo K mg "words_lacking" (top 49)) (G:Glo mg) (FV:FN P w K mg base 2 "lacks_values" ["row","depth"] J1) (FG:FN P w K mg base 1 "lacks_guard" ["row","guard"] J2) (FB:FN P w K mg base 2 "takes_beneath" ["row","depth","guard"] Qj)
  (FM:FN P w K mg base 3 "moves" ["code","labels","place","depth","guard"] (J0 K)):FN P w K mg base 4 "words_lacking" ["code","labels","place","depth","guard"] (z0F K):=by
 refine FN.o D sc49 fun f cdv A outer s H vs Q E hr h=>?_
 obtain ⟨l,d,place,dep,gv,og,rs,r,rfl,hC,hrp,hg,q⟩:=h
 obtain ⟨⟨as,hS,hR⟩,hc,kvs,hd,hL⟩:=id hC
 obtain ⟨ra,hra,har⟩:=hR.get' hrp
 have hro:=hc.ok r (kA hrp)
 have hr2:=hr.mono (show 2≤3 by decide)
 have hr1:=hr.mono (show 1≤3 by decide)
 refine ⟨_,zb (zw (i:=5) sc49.nd rfl (Or.inl rfl) (zC zE (pv 0) (pv 2) (fun _ _=>rfl)))
  (zb (Zi (N:=["goal","deeper","more"]) (nt:=3) (ix:=[]) (cl:=[]) (i:=6) rfl sc49.nd rfl (Or.inl rfl) (qh.plain (by trivial) (by trivial) rfl (by trivial) rfl)
   (qd (zt FM hr rfl (z0 (pv 0) (z0 (pv 1) (z0 (pv 2) (z0 (pv 3) (z0 (pv 4) z7)))))))
   (fun _ _ _ _=>ZV (K:=K) (n:=3) rfl rfl (zr (zm (i:=0) nd3 rfl (Or.inl rfl)) (zr (zm (i:=1) nd3 rfl (Or.inl rfl)) (zr (zm (i:=2) nd3 rfl (Or.inl rfl)) qp))))
   (fun _ _ _ _=>qX) (fun _ _ _ _=>pv 0))
  (zb (zw (i:=7) sc49.nd rfl (Or.inl rfl) (z17 (jp zY (zt FV hr2 rfl (z0 (pv 5) (z0 (pv 3) z7))) (jp zY (zt FG hr1 rfl (z0 (pv 5) (z0 (pv 4) z7)))
    (jp zY (zt FB hr2 rfl (z0 (pv 5) (z0 (pv 3) (z0 (pv 4) z7)))) (jp zY (qe qK (zl zk rfl G.len zF (z0 (pv 0) z7)) (pv 6) rfl) z0Y)))) rfl rfl nofun (by decide)))
  (ze (zi (z2n (N:=["word","is_lacking"]) (nt:=2) (ix:=[]) (cl:=[]) rfl (qh.plain (by trivial) (by trivial) rfl (by trivial) rfl) (pv 7)
   (fun _ _ _ _=>ZV (K:=K) (n:=2) rfl rfl (zr (zm (i:=0) nd2 rfl (Or.inl rfl)) (zr (zm (i:=1) nd2 rfl (Or.inl rfl)) qp)))
   (fun _ _ _ _=>ZU (qY (pv 1))) (fun _ _ _ _=>pv 0)))))),?_⟩
 refine ⟨_,rfl,_,rfl,l,_,_,_,rfl,rfl,hS,zj hra,?_⟩
 refine ⟨_,rfl,_,rfl,_,rfl,_,rfl,_,rfl,l,d,place,dep,gv,og,rs,r,rfl,hC,hrp,hg,fun ml ts H1 s1 hn1 hm1 hM1=>?_⟩
 generalize hms:qk rs place r dep og=ms at hM1
 refine ⟨ml,rfl,⟨_,SqL.of hm1⟩,fun gl hgl=>qw (K:=K) (a:=ml) (xs:=ts.map V.ref) (fun i ys σ H2=>(∃a b c,σ=[a,b,c])∧ys=(ms.take i).map (·.1)∧Same H1 H2∧H2 gl=some (.lst ys))
  ⟨⟨none,none,none,rfl⟩,rfl,zg hgl _,z6⟩ (fun i ys σ H2 _ ⟨_,_,s2,_⟩=>s2.seq (SqL.of hm1)) ?_ ?_⟩
 ·rintro i x ys σ H2 hi ⟨⟨a,b,c,rfl⟩,rfl,s2,hp2⟩
  obtain ⟨t,m,rfl,hm,ht⟩:=(hM1.same fun a xs e=>s2 _ _ e).get hi
  have hil:i < ts.length:=by have:=(kd.mp hi).1;simpa using this
  have hml:ts.length=ms.length:=Paired.length hM1
  refine ⟨t,_,rfl,SqT.of ht,rfl,_,_,rfl,_,_,rfl,_,_,rfl,rfl,?_⟩
  refine jD ⟨_,rfl,hp2,?_,_,?_,rfl,?_,⟨_,_,_,rfl⟩,?_,?_,z6⟩
  ·rw [kg,List.length_take]
   have h1:ms.length≤3:=by
    rw [←hms]
    unfold qk mv1 mv2 mv3
    repeat' split
    all_goals simp
   exact qj (by lia)
  ·rw [kg];lia
  ·rw [kg];lia
  ·rw [qx hm,kD];rfl
  ·exact My.Same.upd s2 hgl _
 ·rintro ys σ H2 ⟨_,rfl,s2,hp2⟩
  have hml:ts.length=ms.length:=Paired.length hM1
  rw [kg,hml,List.take_length] at hp2
  have s02:=s1.trans s2
  intro fd hfd
  have hgl0:H gl=none:=s1.free hgl
  have hfd0:H fd=none:=s02.free hfd
  have s3:=zg hfd (.dK [])
  refine ⟨_,rfl,_,rfl,ra,r,dep,rfl,s3 _ _ (s02 _ _ har),hro,fun H4 s4=>?_⟩
  have s24:=s3.trans s4
  refine ⟨_,rfl,_,rfl,ra,r,gv,og,rfl,s24 _ _ (s02 _ _ har),(hg.same s02).same s24,?_⟩
  refine ⟨_,rfl,_,rfl,_,rfl,ra,r,dep,gv,og,rfl,s24 _ _ (s02 _ _ har),hro,(hg.same s02).same s24,fun H5 s5=>?_⟩
  have s25:=s24.trans s5
  refine ⟨_,rfl,l,_,rfl,.inl (s25.seq (s02.seq hS)),_,rfl,gl,_,rfl,.inl (SqL.of (s25 _ _ hp2)),rfl,by rw [←hms];exact z08 _ _ _ _ _,?_⟩
  refine ⟨s5 _ _ (s4 _ _ z6),kvs4 (Z8 rs place r dep og),?_,(by show 4≤15;decide),?_⟩
  ·unfold Z8 kvs4
   rw [hms,kg,hR.len]
   rfl
  ·rw [show jN [] (kvs4 (Z8 rs place r dep og))=kvs4 (Z8 rs place r dep og) from z4U _ _ _ _]
   generalize hwb:Z8 rs place r dep og=wb
   have hwl:wb.length=4:=by rw [←hwb];rfl
   have sH5:Same H H5:=s02.trans s25
   refine ⟨_,rfl,fd,kvs4 wb,rfl,z6,fun o l2 hl2=>?_⟩
   have nlf:l2≠fd:=fun z=>by rw [z,z6] at hl2;cases hl2
   have hl20:H l2=none:=sH5.free (by rw [zc nlf] at hl2;exact hl2)
   refine z0r (fun i ys σ H2=>(∃a b,σ=[a,b])∧ys=((wb.take i).filter (·.2)).map (fun p=>V.str p.1)∧Same H H2∧H2 l2=some (.lst ys)∧H2 fd=some (.frz o (.dK (kvs4 wb)))) ⟨⟨none,none,rfl⟩,rfl,?_,z6,?_⟩ (fun i ys σ H2 h=>h.2.2.2.2) ?_ ?_
   ·intro b o e
    rw [zc (z8 e hl20),zc (z8 e hfd0),zc (z8 e hfd0)]
    exact sH5 _ _ e
   ·rw [zc nlf.symm];exact z6
   ·rintro i p k v ys σ H2 hi ⟨⟨a,b,rfl⟩,rfl,s2',hp2',hf2⟩ hp
    have hil:i < 4:=by have:=(kd.mp hi).1;unfold kvs4 at this;rw [kg,hwl] at this;exact this
    have hkl:(kvs4 wb).length=4:=by unfold kvs4;rw [kg,hwl]
    obtain ⟨pw,hpw,ek⟩:∃pw:Str × Bool,wb[i]?=some pw∧(k,v)=(Sum.inr pw.1,V.bl pw.2):=by
     unfold kvs4 at hi
     rw [List.getElem?_map] at hi
     cases e:wb[i]? with
     | none=>rw [e] at hi;cases hi
     | some pw=>rw [e] at hi;exact ⟨pw,rfl,(ku hi).symm⟩
    cases ek
    have npl:l2≠p:=z8 hp2' hp
    have npf:fd≠p:=z8 hf2 hp
    have sp:Same H (upd H2 p (.tup [kV (Sum.inr pw.1),V.bl pw.2])):=fun b o e=>by rw [zc (z8 (s2' _ _ e) hp)];exact s2' _ _ e
    refine ⟨p,_,rfl,SqT.of z6,rfl,_,_,rfl,_,_,rfl,rfl,_,rfl,pw.2,rfl,?_⟩
    have efil:(wb.take (i+1)).filter (·.2)=(wb.take i).filter (·.2)++(if pw.2=true then [pw] else []):=by
     rw [qx hpw,List.filter_append]
     congr 1
     cases hh:pw.2 <;> simp [hh]
    refine ite2 (fun c=>?_) (fun c=>?_)
    ·rw [kr c] at efil
     refine ⟨_,rfl,by rw [zc npl];exact hp2',?_,_,by lia,rfl,by lia,⟨_,_,rfl⟩,?_,?_,z6,?_⟩
     ·rw [kg]
      have h1:=List.length_filter_le (fun p:Str × Bool=>p.2) (wb.take i)
      rw [List.length_take] at h1
      exact qj (by lia)
     ·rw [efil,kD];rfl
     ·exact fun b o e=>by rw [zc (z8 e hl20)];exact sp _ _ e
     ·rw [zc nlf.symm,zc npf];exact hf2
    ·rw [kq c,kN] at efil
     exact ⟨_,by lia,rfl,by lia,⟨_,_,rfl⟩,by rw [efil],sp,by rw [zc npl];exact hp2',by rw [zc npf];exact hf2⟩
   ·rintro ys σ H2 ⟨_,rfl,s2',hp2',hf2⟩
    refine q l2 _ (fun b o e=>?_) hl20 ?_
    ·rw [zc (z8 e hfd0)];exact s2' _ _ e
    ·rw [zc nlf,hp2']
     unfold Z7
     rw [hwb,show (kvs4 wb).length=wb.length by unfold kvs4;rw [kg],List.take_length,List.map_map]
     rfl
end
theorem sc51:zh ["code","labels","place","state","depth","guards"] ["code","labels","place","state"] (zd (top 51)):=fsM
noncomputable def z1V:Scope:=match (zH (top 51)).getD 1 (.Pass ⟨0,0,0,0⟩) with
 | .Return (some (.ListComp _ _ s _)) _=>s
 | _=>zd (top 51)
noncomputable def cl52 (L:Addr):List (Str × Addr):=[("state",L+1+1+1),("place",L+1+1),("code",L+1)]
noncomputable def nm52:List (Str × NameKind):=[(".0",.local),("goal",.local),("deeper",.local),("more",.local),("guards_behind",.globalImplicit),("code",.cell),("place",.cell),("state",.cell)]
noncomputable def N52:List Str:=["goal","deeper","more","code","place","state"]
theorem z5i (f:Addr) (cdv:Value) (L:Addr):closureFor z1V (envOfC "next_states" (zd (top 51)) L f cdv)=pure (cl52 L):=by rfl
theorem z5y (f:Addr) (cdv:Value) (L:Addr):(relabel z1V (envOfC "next_states" (zd (top 51)) L f cdv)).names=nm52:=by rfl
theorem cs52 {P:Program} {w:World} {K:ko} {mg:Str→Option Value} {base:Heap} {f:Addr} {cdv:Value} {A:Around} {outer:List Env} {s:Shared} {H:Hp} {E:XK}:
  qh (cxOf CX0 P w K mg base ["code","labels","place","state","depth","guards"] "next_states" (zd (top 51)) f cdv A outer s H E).nox N52 3 [0,2,3] z1V (cl52 s.heap.objs.size) where
 clos:=z5i f cdv s.heap.objs.size
 nocell:=by trivial
 kind:=rfl
 names:=by trivial
 sub:=fun x c e=>e
 has:=fun x h=>by
  have e:=z5y f cdv s.heap.objs.size
  have h:nm52.lookup x=some .cell∨nm52.lookup x=some .free:=by rw [←e];exact h
  have:x="code"∨x="place"∨x="state":=by
   rcases h with h | h
   ·have hm:=PySem.mem_of_lookup h
    simp only [nm52,kx,Prod.mk.injEq,kl,or_false] at hm
    rcases hm with z | z | z | z | z | z | z | z
    all_goals first | exact .inl z.1 | exact .inr (.inl z.1) | exact .inr (.inr z.1) | exact z.2.elim | cases z.2
   ·have hm:=PySem.mem_of_lookup h
    simp only [nm52,kx,Prod.mk.injEq,kl,or_false] at hm
    rcases hm with z | z | z | z | z | z | z | z
    all_goals first | exact z.2.elim | cases z.2
  rcases this with rfl | rfl | rfl
  ·exact ⟨_,rfl⟩
  ·exact ⟨_,rfl⟩
  ·exact ⟨_,rfl⟩
 len:=rfl
 free:=fun j x e=>by
  match j,e with
  | 0,e=>cases e;exact ⟨0,rfl,rfl,rfl,rfl,fun c h=>h⟩
  | 1,e=>cases e;exact ⟨2,rfl,rfl,rfl,rfl,fun c h=>h⟩
  | 2,e=>cases e;exact ⟨3,rfl,rfl,rfl,rfl,fun c h=>h⟩
  | j+3,e=>exact absurd e (by rw [List.getElem?_eq_none (by show 6≤3+(j+3);lia)];exact nofun)
abbrev GsIn (H:Hp):List Addr→List Gd→Prop:=Paired fun a p=>H a=some (.tup [.int p.1,.int p.2])
def GsAt (K:ko) (H:Hp) (g:Addr) (gs:List Gd):Prop:=∃as,SqT K H g (as.map V.ref)∧GsIn H as gs
abbrev Sta:=Int × List Gd
def StA (K:ko) (H:Hp) (a:Addr) (s:Sta):Prop:=∃g,SqT K H a [.int s.1,.ref g]∧GsAt K H g s.2
theorem GsIn.same {H H':Hp} {as:List Addr} {gs:List Gd} (h:GsIn H as gs) (s:Same H H'):GsIn H' as gs:=Paired.mapP h fun _ _ e=>s _ _ e
theorem GsAt.same {K:ko} {H H':Hp} {g:Addr} {gs:List Gd} (h:GsAt K H g gs) (s:Same H H'):GsAt K H' g gs:=let ⟨as,h1,h2⟩:=h;⟨as,jo s h1,h2.same s⟩
theorem StA.same {K:ko} {H H':Hp} {a:Addr} {st:Sta} (h:StA K H a st) (s:Same H H'):StA K H' a st:=let ⟨g,h1,h2⟩:=h;⟨g,jo s h1,h2.same s⟩
theorem GsIn.append {H:Hp} {as bs:List Addr} {gs hs:List Gd} (h:GsIn H as gs) (k:GsIn H bs hs):GsIn H (as++bs) (gs++hs):=JB h k
theorem GsIn.dropLast {H:Hp} {as:List Addr} {gs:List Gd} (h:GsIn H as gs):GsIn H as.dropLast gs.dropLast:=by
 induction h with
 | nil=>exact .nil
 | cons h t ih=>
  cases t with
  | nil=>exact .nil
  | cons h2 t=>exact .cons h ih
theorem GsIn.last {H:Hp} {as:List Addr} {gs:List Gd} (h:GsIn H as gs):(as=[]∧gs=[])∨∃bs a g,as=bs++[a]∧gs.getLast?=some g∧H a=some (.tup [.int g.1,.int g.2]):=by
 induction h with
 | nil=>exact .inl ⟨rfl,rfl⟩
 | @cons a g as gs h t ih=>
  rcases ih with ⟨rfl,rfl⟩ | ⟨bs,a',g',e1,e2,e3⟩
  ·exact .inr ⟨[],a,g,rfl,rfl,h⟩
  ·refine .inr ⟨a :: bs,a',g',by rw [e1];rfl,?_,e3⟩
   cases gs with
   | nil=>cases e2
   | cons x y=>rw [List.getLast?_cons_cons];exact e2
section
variable {X:Cx}
def z5C (K:ko):R2:=fun x y H Q=>∃a b xs ys,x=.ref a∧y=.ref b∧SqT K H a xs∧SqT K H b ys∧ys≠[]∧xs.length+ys.length≤sizeLine∧(xs=[]→Q (.ref b) H)∧(xs≠[]→∀p,H p=none→Q (.ref p) (upd H p (.tup (xs++ys))))
theorem z3T:OpR X (binaryOp .Add) (z5C X.K):=by
 intro pins s σ H x y v u Q I rx ry h
 obtain ⟨a,b,xs,ys,rfl,rfl,ha,hb,hy,hz,q1,q2⟩:=h
 by_cases hx:xs=[]
 ·subst hx
  cases rx
  cases ry
  obtain ⟨its,r1,ht,_⟩:=I.tuple ha
  obtain ⟨its2,r2,ht2,_⟩:=I.tuple hb
  cases r1
  obtain ⟨⟨cls,dd,data,sl⟩,ho,hc,n,hd⟩:=id ht
  obtain ⟨⟨cls2,dd2,data2,sl2⟩,ho2,hc2,n2,hd2⟩:=id ht2
  simp only at hc hd hc2 hd2
  subst hc hd hc2 hd2
  exact concat_meets ⟨_,ho,rfl⟩ ⟨_,ho2,rfl⟩ noFill_tuple_add seq_tuple_add PySem.F.slot_tuple_add PySem.F.entry_tuple_add (PySem.F.args_tuple_add_2 _ _)
   (tuple_addW0 a b _ _ n n2 dd dd2 sl sl2 (by simp)) ⟨ho,ho2,.ref b,H,I,rfl,q1 rfl⟩
 ·exact z1b pins s σ H _ _ v u Q I rx ry ⟨a,b,xs,ys,rfl,rfl,ha,hb,hx,hz,fun z=>absurd z hy,fun _=>q2 hx⟩
theorem z34 {A:Around} {s:Shared} {l b:Addr} {vs ws:List Value} (hl:s.heap.IsTuple l vs.toArray) (hb:s.heap.IsTuple b ws.toArray) (hn:vs.length=ws.length) (hu:A.units < cLine)
  (he:∀j (h1:j < vs.length) (h2:j < ws.length),SeqAt.EqAt A.in1 s vs[j] ws[j] true):SeqAt.EqAt A s (.ref l) (.ref b) true:=by
 by_cases z:l=b
 ·subst z;exact SeqAt.EqAt.same _
 ·refine SeqAt.EqAt.of_refs z ?_
  have:=SeqAt.RcAt.tuples (e:=fun _=>true) hl hb hu (fun j h1 h2=>by
   have:=he j (by simpa using h1) (by simpa using h2)
   simpa using this)
  have e:((List.range (min vs.toArray.size ws.toArray.size)).all (fun _=>true)&&vs.toArray.size == ws.toArray.size)=true:=by simp [hn]
  rw [e] at this
  exact this
theorem Za:∀{xs:List V} {vs ws:List Value} {A:Around} {s:Shared},Vals xs vs→Vals xs ws→(∀x∈xs,qI x=true∧eqV x x=true)→∀j (h1:j < vs.length) (h2:j < ws.length),SeqAt.EqAt A s vs[j] ws[j] true
 | _,_,_,_,_,.nil,.nil,_,j,h1,_=>absurd h1 (Nat.not_lt_zero _)
 | x :: xs,_,_,A,s,.cons r t,.cons r' t',h,0,_,_=>by
  have e:=z1I (A:=A) (s:=s) r r' (h x (kJ ..)).1 (h x (kJ ..)).1
  rw [(h x (kJ ..)).2] at e
  exact e
 | x :: xs,_,_,A,s,.cons r t,.cons r' t',h,j+1,h1,h2=>Za t t' (fun y hy=>h y (kK _ hy)) j (by simpa using h1) (by simpa using h2)
theorem z2B {pins:List (Addr × Obj)} {σ:L2.St} {H:Hp} {s:Shared} {A:Around} {a b:Addr} {g:Gd} (I:Inv X pins σ H s) (ha:H a=some (.tup [.int g.1,.int g.2])) (hb:H b=some (.tup [.int g.1,.int g.2])) (hu:A.units < cLine):SeqAt.EqAt A s (.ref a) (.ref b) true:=by
 obtain ⟨vs,r1,t1,_⟩:=I.tuple (SqT.of ha)
 obtain ⟨ws,r2,t2,_⟩:=I.tuple (SqT.of hb)
 exact z34 t1 t2 (by rw [←r1.length,←r2.length]) hu fun j h1 h2=>Za r1 r2 (fun x hx=>by
  rcases kx.mp hx with rfl | hx
  ·exact ⟨rfl,by show (g.1 == g.1)=true;simp⟩
  ·rw [kj.mp hx];exact ⟨rfl,by show (g.2 == g.2)=true;simp⟩) j h1 h2
theorem QE {pins:List (Addr × Obj)} {σ:L2.St} {H:Hp} {s:Shared} {A:Around} (I:Inv X pins σ H s) (hu:A.units < cLine):∀{as bs:List Addr} {gs:List Gd} {vs ws:List Value},GsIn H as gs→GsIn H bs gs→Vals (as.map V.ref) vs→Vals (bs.map V.ref) ws→∀j (h1:j < vs.length) (h2:j < ws.length),SeqAt.EqAt A s vs[j] ws[j] true
 | _,_,_,_,_,.nil,.nil,.nil,.nil,j,h1,_=>absurd h1 (Nat.not_lt_zero _)
 | _,_,_,_,_,.cons h t,.cons h' t',.cons r rr,.cons r' rr',0,_,_=>by
  cases r
  cases r'
  exact z2B I h h' hu
 | _,_,_,_,_,.cons h t,.cons h' t',.cons r rr,.cons r' rr',j+1,h1,h2=>QE I hu t t' rr rr' j (by simpa using h1) (by simpa using h2)
theorem z5I {pins:List (Addr × Obj)} {σ:L2.St} {H:Hp} {s:Shared} {A:Around} {a b:Addr} {gs:List Gd} (I:Inv X pins σ H s) (ha:GsAt X.K H a gs) (hb:GsAt X.K H b gs) (hu:A.units+1 < cLine):SeqAt.EqAt A s (.ref a) (.ref b) true:=by
 obtain ⟨as,h1,h2⟩:=ha
 obtain ⟨bs,h3,h4⟩:=hb
 obtain ⟨vs,r1,t1,_⟩:=I.tuple h1
 obtain ⟨ws,r2,t2,_⟩:=I.tuple h3
 have e1:=Paired.length h2
 have e2:=Paired.length h4
 refine z34 t1 t2 ?_ (by lia) (QE I (by show A.units+1 < cLine;exact hu) h2 h4 r1 r2)
 rw [←r1.length,←r2.length,kg,kg,e1,e2]
def z5A (K:ko):R2:=fun x y H Q=>∃a b st,x=.ref a∧y=.ref b∧StA K H a st∧StA K H b st∧Q (.bl false) H
theorem z3R (hu:X.A.units+3 < cLine):OpR X (compareOp .NotEq) (z5A X.K):=by
 intro pins s σ H x y v u Q I rx ry h
 obtain ⟨a,b,st,rfl,rfl,⟨g,h1,h2⟩,⟨g',h3,h4⟩,q⟩:=h
 cases rx
 cases ry
 obtain ⟨vs,r1,t1,_⟩:=I.tuple h1
 obtain ⟨ws,r2,t2,_⟩:=I.tuple h3
 have e:(!((List.range (min vs.toArray.size ws.toArray.size)).all (fun _=>true)&&vs.toArray.size == ws.toArray.size))=false:=by
  have z1:=r1.length
  have z2:=r2.length
  have z:vs.length=ws.length:=z1.symm.trans z2
  simp only [ky]
  rw [z]
  simp
 refine SeqAt.RcNeAt.tuples (e:=fun _=>true) t1 t2 (by lia) (fun j j1 j2=>?_) X.prog X.w X.xe _ ⟨.bl _,H,I,rfl,by rw [e];exact q⟩
 cases r1 with
 | cons ra rb=>
  cases r2 with
  | cons rc rd=>
   cases rb with
   | cons re rf=>
    cases rd with
    | cons rg rh=>
     cases rf
     cases rh
     match j,j1,j2 with
     | 0,_,_=>
      have e:=z1I (A:=X.A.in1) (s:=s) ra rc rfl rfl
      rw [show eqV (V.int st.1) (V.int st.1)=true by show (st.1 == st.1)=true;simp] at e
      exact e
     | 1,_,_=>
      cases re
      cases rg
      exact z5I I h2 h4 (by show X.A.units+1+1 < cLine;lia)
     | j+2,j1,_=>exact absurd j1 (by simp)
end
noncomputable def ql (r:Row) (d:Int) (gs:List Gd) (more:Int):List Gd:=if more=1 then gs++[(argM r.arg,d)] else if more= -1 then gs.dropLast else gs
section
def spGb (K:ko):Sp:=fun vs H Q _=>∃ra st r d g gs more,vs=[.ref ra,.ref st,.int more]∧H ra=some (.tup (tupV r))∧SqT K H st [.int d,.ref g]∧GsAt K H g gs∧gs.length≤1000∧(more=1→∃m,r.arg=.int m)∧(more= -1→gs≠[])∧
 ∀g' H',Same H H'→GsAt K H' g' (ql r d gs more)→Q (.ref g') H'
theorem sc50:zh ["row","state","more","depth","guards"] ["row","state","more"] (zd (top 50)):=fsM
theorem z2S {α:Type} (xs:List V) (h:xs≠[]):cutV xs none (some (-1))=xs.dropLast∧¬(HT.sIx xs.length 0 none=0∧HT.sIx xs.length xs.length (some (-1))=xs.length):=by
 have hp:0 < xs.length:=List.length_pos_iff.mpr h
 have e:HT.sIx xs.length xs.length (some (-1))=xs.length - 1:=by
  show (if (-1:Int) < 0 then ((-1:Int)+(xs.length:Int)).toNat else min (-1:Int).toNat xs.length)=_
  rw [kr (by decide)]
  lia
 refine ⟨?_,fun z=>by rw [e] at z;lia⟩
 unfold cutV
 rw [e]
 show (xs.drop 0).take (xs.length - 1 - 0)=_
 rw [List.drop_zero,Nat.sub_zero,List.dropLast_eq_take]
theorem z5P (D:zo K mg "guards_behind" (top 50)):FN P w K mg base 1 "guards_behind" ["row","state","more"] (spGb K):=by
 refine FN.o D sc50 fun f cdv A outer s H vs Q E hr h=>?_
 obtain ⟨ra,st,r,d,g,gs,more,rfl,har,hst,⟨as,hga,hgs⟩,hz,h1,h2,q⟩:=h
 refine ⟨_,zb (j3 (pv 1) (jr rfl (zr (zm (i:=3) sc50.nd rfl (Or.inl rfl)) (zr (zm (i:=4) sc50.nd rfl (Or.inl rfl)) qp))))
  (zb (qc (zq jV (pv 2) zf (zu _)) (ze (zi (zI z3T (pv 4) (qz (z0 (qz (z0 (zC zV (pv 0) zf (fun _ _=>rfl)) (z0 (pv 3) z7))) z7))))) zA)
  (ze (zi (js (zq jV (pv 2) (z03 ZC zf) (zu _)) (ZW z3f (pv 4) J6 (J5 (z03 ZC zf))) (pv 4))))),?_⟩
 refine ⟨_,rfl,st,_,rfl,hst,rfl,_,_,rfl,_,_,rfl,rfl,?_⟩
 refine ⟨_,rfl,rfl,_,rfl,?_⟩
 have hal:as.length=gs.length:=Paired.length hgs
 unfold ql at q
 refine ite2 (fun c=>?_) (fun c=>?_)
 ·have e:more=1:=by have:=kw c;injection this
  obtain ⟨m,em⟩:=h1 e
  rw [kr e,em] at q
  refine ⟨_,rfl,_,rfl,ra,_,_,_,rfl,rfl,SqT.of har,zj (j:=1) rfl,_,rfl,by show 2≤sizeLine;decide,fun p hp=>⟨by show 1≤sizeLine;decide,fun p2 hp2=>?_⟩⟩
  have s1:=zg hp (.tup [r.arg,.int d])
  have s2:=zg hp2 (.tup [.ref p])
  have hp':(upd (upd H p (.tup [r.arg,.int d])) p2 (.tup [.ref p])) p=some (.tup [.int (argM (.int m)),.int d]):=by
   rw [←em]
   have:=s2 _ _ (z6 (H:=H) (a:=p) (o:=.tup [r.arg,.int d]))
   rw [this,em]
   rfl
  have s12:=s1.trans s2
  refine ⟨g,p2,as.map V.ref,[.ref p],rfl,rfl,jo s12 hga,SqT.of z6,nofun,by rw [kg];show as.length+1≤_;rw [sizeLine_eq];lia,fun z=>?_,fun z p3 hp3=>?_⟩
  ·have za:as=[]:=by simpa using z
   subst za
   cases hgs
   exact q p2 _ s12 ⟨[p],SqT.of z6,.cons hp' .nil⟩
  ·have s3:=zg hp3 (.tup (as.map V.ref++[.ref p]))
   exact q p3 _ (s12.trans s3) ⟨as++[p],SqT.of (by rw [kD];exact z6),((hgs.same s12).same s3).append (.cons (s3 _ _ hp') .nil)⟩
 ·have e:¬more=1:=fun z=>c (by rw [z];rfl)
  rw [kq e] at q
  refine ⟨_,rfl,1,rfl,rfl,_,rfl,?_⟩
  refine ite2 (fun c2=>?_) (fun c2=>?_)
  ·have e2:more= -1:=by have:=kw c2;injection this
   rw [kr e2] at q
   have hne:as.map V.ref≠[]:=fun z=>h2 e2 (by
    have za:as=[]:=by simpa using z
    rw [za] at hal
    exact List.length_eq_zero_iff.mp hal.symm)
   obtain ⟨k1,k2⟩:=z2S (α:=V) _ hne
   refine ⟨_,rfl,1,rfl,-1,rfl,g,_,rfl,hga,k2,fun p hp=>?_⟩
   rw [k1]
   have s1:=zg hp (.tup (as.map V.ref).dropLast)
   refine q p _ s1 ⟨as.dropLast,SqT.of (by rw [List.map_dropLast];exact z6),(hgs.dropLast).same s1⟩
  ·have e2:¬more= -1:=fun z=>c2 (by rw [z];rfl)
   rw [kq e2] at q
   exact ⟨_,rfl,q g H (Same.refl _) ⟨as,hga,hgs⟩⟩
end
noncomputable def isT:HO→Bool
 | .tup _=>true
 | .frz _ _=>true
 | _=>false
def qg (H H':Hp):Prop:=∀b o,H b=some o→isT o=true→H' b=some o
theorem qg.trans {H H1 H2:Hp} (a:qg H H1) (b:qg H1 H2):qg H H2:=fun c o h t=>b c o (a c o h t) t
theorem qg.of {H H':Hp} (s:Same H H'):qg H H':=fun b o h _=>s b o h
theorem qg.upd {H:Hp} {l:Addr} {o u:HO} (h:H l=some u) (hu:isT u=false):qg H (upd H l o):=fun b x e t=>by
 rw [zc (fun z=>by rw [z,h] at e;cases e;rw [hu] at t;cases t)];exact e
theorem Ql {K:ko} {H H':Hp} {a:Addr} {xs:List V} (s:qg H H') (h:SqT K H a xs):SqT K H' a xs:=by
 rcases h with (h | ⟨o,h⟩) | h
 ·exact .inl (.inl (s _ _ h rfl))
 ·exact .inl (.inr ⟨o,s _ _ h rfl⟩)
 ·exact .inr h
theorem GsIn.keep {H H':Hp} {as:List Addr} {gs:List Gd} (h:GsIn H as gs) (s:qg H H'):GsIn H' as gs:=Paired.mapP h fun _ _ e=>s _ _ e rfl
theorem GsAt.keep {K:ko} {H H':Hp} {g:Addr} {gs:List Gd} (h:GsAt K H g gs) (s:qg H H'):GsAt K H' g gs:=let ⟨as,h1,h2⟩:=h;⟨as,Ql s h1,h2.keep s⟩
theorem StA.keep {K:ko} {H H':Hp} {a:Addr} {st:Sta} (h:StA K H a st) (s:qg H H'):StA K H' a st:=let ⟨g,h1,h2⟩:=h;⟨g,Ql s h1,h2.keep s⟩
abbrev NxIn (K:ko) (H:Hp):List Addr→List (V × Sta)→Prop:=Paired fun t n=>∃a,H t=some (.tup [n.1,.ref a])∧StA K H a n.2
theorem NxIn.keep {K:ko} {H H':Hp} {ts:List Addr} {ns:List (V × Sta)} (h:NxIn K H ts ns) (s:qg H H'):NxIn K H' ts ns:=Paired.mapP h fun _ _ z=>z.elim fun a q=>⟨a,s _ _ q.1 rfl,q.2.keep s⟩
theorem NxIn.append {K:ko} {H:Hp} {as bs:List Addr} {gs hs:List (V × Sta)} (h:NxIn K H as gs) (k:NxIn K H bs hs):NxIn K H (as++bs) (gs++hs):=JB h k
theorem NxIn.get {K:ko} {H:Hp} {as:List Addr} {rs:List (V × Sta)} {i:Nat} {x:V} (h:NxIn K H as rs) (e:(as.map V.ref)[i]?=some x):∃t n a,x=.ref t∧rs[i]?=some n∧H t=some (.tup [n.1,.ref a])∧StA K H a n.2:=by
 obtain ⟨t,n,h1,h2,a,h3⟩:=z0X h e
 exact ⟨t,n,a,h1,h2,h3⟩
noncomputable def Zn (rs:List Row) (place:Nat) (r:Row) (st:Sta):List (V × Sta):=(qk rs place r st.1 st.2.getLast?).map fun m=>(m.1,(m.2.1,ql r st.1 st.2 m.2.2))
theorem z2D {x:Str} (h:tabI zT x=1):x="try":=by
 unfold tabI at h
 cases e:zT.lookup x with
 | none=>rw [e] at h;cases h
 | some v=>
  have hm:=PySem.mem_of_lookup e
  rw [e] at h
  simp only [zT,kx,Prod.mk.injEq,kl,or_false] at hm
  rcases hm with ⟨z,_⟩ | ⟨_,z⟩
  ·exact z
  ·rw [z] at h;cases h
theorem z2E {x:Str} (h:tabI zT x= -1):x="endtry":=by
 unfold tabI at h
 cases e:zT.lookup x with
 | none=>rw [e] at h;cases h
 | some v=>
  have hm:=PySem.mem_of_lookup e
  rw [e] at h
  simp only [zT,kx,Prod.mk.injEq,kl,or_false] at hm
  rcases hm with ⟨_,z⟩ | ⟨z,_⟩
  ·rw [z] at h;cases h
  ·exact z
theorem z07 {rs:List Row} {place:Nat} {r:Row} {d:Int} {gs:List Gd} (hok:jB r):∀m∈qk rs place r d gs.getLast?,(m.2.2=1→∃k,r.arg=.int k)∧(m.2.2= -1→gs≠[]):=by
 intro m hm
 unfold qk at hm
 split at hm
 ·cases hm
 ·split at hm
  ·cases hm
  ·rename_i _ hG
   rcases kL.mp hm with hm | hm
   ·rcases kL.mp hm with hm | hm
    ·unfold mv1 at hm
     split at hm
     ·cases hm
     ·rw [kj.mp hm]
      refine ⟨fun h=>?_,fun h=>?_⟩
      ·have e:=z2D h
       obtain ⟨s,hs,hfit,_⟩:=hok.parts
       rw [e,show zG "try"=some ("mark":Str) by trivial] at hs
       cases hs
       obtain ⟨k,hk,_⟩:=ju hfit
       exact ⟨k,hk⟩
      ·have e:=z2E h
       intro z
       subst z
       exact hG (by unfold ZA;rw [e];decide)
    ·unfold mv2 at hm
     split at hm
     ·rw [kj.mp hm]
      exact ⟨fun h=>absurd (show (0:Int)=1 from h) (by decide),fun h=>absurd (show (0:Int)= -1 from h) (by decide)⟩
     ·cases hm
   ·unfold mv3 at hm
    split at hm
    ·cases e:gs.getLast? with
     | none=>rw [e] at hm;cases hm
     | some g=>
      rw [e] at hm
      rw [kj.mp hm]
      refine ⟨fun h=>absurd (show (-1:Int)=1 from h) (by decide),fun _ z=>?_⟩
      subst z
      cases e
    ·cases hm
theorem Q6 {X:Cx} {K:ko} (hK:X.K=K):IxR X (rIxL K):=by subst hK;exact zE
theorem Qv (rs:List Row) (place:Nat) (r:Row) (d:Int) (og:Option Gd):(qk rs place r d og).length≤3:=by
 unfold qk mv1 mv2 mv3
 repeat' split
 all_goals simp
theorem nd52:N52.Nodup:=by trivial
section
theorem GsAt.guardV {H:Hp} {g:Addr} {gs:List Gd} (h:GsAt K H g gs):∃as:List Addr,SqT K H g (as.map V.ref)∧((as=[]∧ja H .non gs.getLast?)∨∃bs a,as=bs++[a]∧ja H (.ref a) gs.getLast?):=by
 obtain ⟨as,h1,h2⟩:=h
 refine ⟨as,h1,?_⟩
 rcases h2.last with ⟨e1,e2⟩ | ⟨bs,a,g',e1,e2,e3⟩
 ·exact .inl ⟨e1,by rw [e2];rfl⟩
 ·exact .inr ⟨bs,a,e1,by rw [e2];exact ⟨a,rfl,e3⟩⟩
def z3J (K:ko):Sp:=fun vs H Q _=>∃(g:Addr) (gs:List Gd),vs=[.ref g]∧GsAt K H g gs∧∀gv,ja H gv gs.getLast?→Q gv H
theorem up2 (F:FN P w K mg base 1 "uppermost" ["guards"] (spUp K)):FN P w K mg base 1 "uppermost" ["guards"] (z3J K):=F.imp fun vs H Q E ⟨g,gs,e,h,q⟩=>by
 obtain ⟨as,h1,h2⟩:=h.guardV
 refine ⟨g,as,e,h1,?_⟩
 rcases h2 with ⟨a,b⟩ | ⟨bs,a,e1,b⟩
 ·exact .inl ⟨a,q _ b⟩
 ·exact .inr ⟨bs,a,e1,q _ b⟩
def Jt (K:ko):Sp:=fun vs H Q _=>∃l d place sa st rs r,vs=[.ref l,.ref d,.int (place:Nat),.ref sa]∧QU K H l d rs∧rs[place]?=some r∧StA K H sa st∧st.2.length≤1000∧
 ∀f ts H',Same H H'→H f=none→H' f=some (.lst (ts.map V.ref))→NxIn K H' ts (Zn rs place r st)→Q (.ref f) H'
theorem z46 (D:zo K mg "next_states" (top 51)) (FU:FN P w K mg base 1 "uppermost" ["guards"] (z3J K)) (FM:FN P w K mg base 3 "moves" ["code","labels","place","depth","guard"] (J0 K)) (FB:FN P w K mg base 1 "guards_behind" ["row","state","more"] (spGb K)):
  FN P w K mg base 4 "next_states" ["code","labels","place","state"] (Jt K):=by
 refine FN.o D sc51 fun f cdv A outer s H vs Q E hr h=>?_
 obtain ⟨l,d,place,sa,st,rs,r,rfl,hC,hrp,⟨g,hsa,hgs⟩,hz,q⟩:=h
 have hr1:=hr.mono (show 1≤3 by decide)
 refine ⟨_,zb (j3 (pv 3) (jr rfl (zr (zm (i:=4) sc51.nd rfl (Or.inl rfl)) (zr (zm (i:=5) sc51.nd rfl (Or.inl rfl)) qp))))
  (ze (zi (qv (N:=N52) (nt:=3) (ix:=[0,2,3]) (cl:=cl52 s.heap.objs.size) rfl cs52 (qd (zt FM hr rfl (z0 (pv 0) (z0 (pv 1) (z0 (pv 2) (z0 (pv 4) (z0 (zt FU hr1 rfl (z0 (pv 5) z7)) z7)))))))
   (fun _ _ _ _=>ZV (K:=K) (n:=3) rfl rfl (zr (zm (i:=0) nd52 rfl (Or.inl rfl)) (zr (zm (i:=1) nd52 rfl (Or.inl rfl)) (zr (zm (i:=2) nd52 rfl (Or.inl rfl)) qp))))
   (fun _ _ _ _=>qX)
   (fun _ _ _ _=>qz (z0 (pv 0) (z0 (qz (z0 (pv 1) (z0 (zt FB hr1 rfl (z0 (zC (Q6 (K:=K) rfl) (pv 3) (pv 4) (fun _ _=>rfl)) (z0 (pv 5) (z0 (pv 2) z7)))) z7))) z7)))))),?_⟩
 refine ⟨_,rfl,sa,_,rfl,hsa,rfl,_,_,rfl,_,_,rfl,rfl,?_⟩
 refine ⟨_,rfl,_,rfl,_,rfl,_,rfl,_,rfl,g,st.2,rfl,hgs,fun gv hgv=>?_⟩
 refine ⟨l,d,place,st.1,gv,_,rs,r,rfl,hC,hrp,hgv,fun ml ts H1 s1 hn1 hm1 hM1=>?_⟩
 obtain ⟨⟨as,hS,hR⟩,hc,_⟩:=id hC
 have hro:=hc.ok r (kA hrp)
 have hmm:=z07 (rs:=rs) (place:=place) (d:=st.1) (gs:=st.2) hro
 have hlen:=Qv rs place r st.1 st.2.getLast?
 unfold Zn at q
 generalize hms:qk rs place r st.1 st.2.getLast?=ms at hM1 hmm hlen q
 refine ⟨ml,rfl,⟨_,SqL.of hm1⟩,fun nl hnl=>qw (K:=K) (a:=ml) (xs:=ts.map V.ref) (fun i ys σ H2=>(∃a b c,σ=[a,b,c,some (.ref l),some (.int (place:Nat)),some (.ref sa)])∧
   ∃us:List Addr,ys=us.map V.ref∧NxIn K H2 us ((ms.take i).map fun m=>(m.1,(m.2.1,ql r st.1 st.2 m.2.2)))∧Same H1 H2∧H2 nl=some (.lst ys))
  ⟨⟨none,none,none,rfl⟩,[],rfl,.nil,zg hnl _,z6⟩ (fun i ys σ H2 _ ⟨_,_,_,_,s2,_⟩=>s2.seq (SqL.of hm1)) ?_ ?_⟩
 ·rintro i x ys σ H2 hi ⟨⟨a,b,c,rfl⟩,us,rfl,hN,s2,hp2⟩
  obtain ⟨t,m,rfl,hm,ht⟩:=(hM1.same fun a xs e=>s2 _ _ e).get hi
  have hil:i < ts.length:=by have:=(kd.mp hi).1;simpa using this
  have hml:ts.length=ms.length:=Paired.length hM1
  have hul:us.length=(ms.take i).length:=by have:=Paired.length hN;simpa using this
  have sH:=s1.trans s2
  obtain ⟨ra,hra,har⟩:=hR.get' hrp
  obtain ⟨mm1,mm2⟩:=hmm m (kA hm)
  refine ⟨t,_,rfl,SqT.of ht,rfl,_,_,rfl,_,_,rfl,_,_,rfl,rfl,?_⟩
  refine jD ⟨_,rfl,_,rfl,_,rfl,_,rfl,l,_,_,_,rfl,rfl,sH.seq hS,zj hra,_,rfl,_,rfl,ra,sa,r,st.1,g,st.2,m.2.2,rfl,sH _ _ har,jo sH hsa,hgs.same sH,hz,mm1,mm2,fun g' H3 s3 hg'=>?_⟩
  refine ⟨by show 2≤sizeLine;decide,fun p1 hp1=>⟨by show 2≤sizeLine;decide,fun p2 hp2'=>?_⟩⟩
  have t1:=zg hp1 (.tup [.int m.2.1,.ref g'])
  have t2:=zg hp2' (.tup [m.1,.ref p1])
  have t12:=t1.trans t2
  have sE:=s3.trans t12
  have hnl5:=sE _ _ hp2
  refine ⟨hnl5,?_,_,by rw [kg];lia,rfl,by rw [kg];lia,⟨_,_,_,rfl⟩,us++[p2],by rw [kD];rfl,?_,?_,z6⟩
  ·rw [kg,hul,List.length_take]
   exact qj (by lia)
  ·rw [qx hm,kD]
   have kT:=qg.upd (o:=.lst (us.map V.ref++[.ref p2])) hnl5 rfl
   refine NxIn.append ((hN.keep (qg.of sE)).keep kT) (.cons ⟨p1,kT _ _ z6 rfl,StA.keep ⟨g',SqT.of (t2 _ _ z6),hg'.same t12⟩ kT⟩ .nil)
  ·exact fun b o e=>by rw [zc (z8 e hnl)];exact sE _ _ (s2 _ _ e)
 ·rintro ys σ H2 ⟨_,us,rfl,hN,s2,hp2⟩
  have hml:ts.length=ms.length:=Paired.length hM1
  rw [kg,hml,List.take_length] at hN
  exact q nl us H2 (s1.trans s2) (s1.free hnl) hp2 hN
def spSw (K:ko):Sp:=fun vs H Q _=>∃l d place sa st rs r,vs=[.ref l,.ref d,.int (place:Nat),.ref sa]∧QU K H l d rs∧rs[place]?=some r∧StA K H sa st∧
 ∀f H',Same H H'→H f=none→H' f=some (.lst ((Z7 rs place r st.1 st.2.getLast?).map V.str))→Q (.ref f) H'
theorem sc52:zh ["code","labels","place","state"] ["code","labels","place","state"] (zd (top 52)):=fsM
theorem z5N (D:zo K mg "state_words" (top 52)) (FU:FN P w K mg base 1 "uppermost" ["guards"] (z3J K)) (FW:FN P w K mg base 4 "words_lacking" ["code","labels","place","depth","guard"] (z0F K)):FN P w K mg base 5 "state_words" ["code","labels","place","state"] (spSw K):=by
 refine FN.o D sc52 fun f cdv A outer s H vs Q E hr h=>?_
 obtain ⟨l,d,place,sa,st,rs,r,rfl,hC,hrp,⟨g,hsa,hgs⟩,q⟩:=h
 refine ⟨_,ze (zi (zt FW hr rfl (z0 (pv 0) (z0 (pv 1) (z0 (pv 2) (z0 (zC zV (pv 3) zf (fun _ _=>rfl)) (z0 (zt FU (hr.mono (by decide)) rfl (z0 (zC zV (pv 3) zf (fun _ _=>rfl)) z7)) z7))))))),?_⟩
 refine ⟨_,rfl,_,rfl,_,rfl,_,rfl,sa,_,_,_,rfl,rfl,hsa,zj (j:=0) rfl,_,rfl,sa,_,_,_,rfl,rfl,hsa,zj (j:=1) rfl,g,st.2,rfl,hgs,fun gv hgv=>?_⟩
 exact ⟨l,d,place,st.1,gv,_,rs,r,rfl,hC,hrp,hgv,q⟩
end
abbrev Fnd:=List (Option Sta)
noncomputable def Zy:List (V × Sta)→Fnd→List Nat→Option (Fnd × List Nat)
 | [],f,w=>some (f,w)
 | (x,s) :: r,f,w=>match x with
  | .int j=>if 0≤j then (match f[j.toNat]? with
   | some none=>Zy r (f.set j.toNat (some s)) (w++[j.toNat])
   | some (some s')=>if s'=s then Zy r f w else none
   | none=>none) else none
  | _=>none
noncomputable def bfs (rs:List Row):Nat→Fnd→List Nat→Option Fnd
 | _,f,[]=>some f
 | 0,_,_ :: _=>none
 | n+1,f,p :: w=>match rs[p]?,f[p]? with
  | some r,some (some s)=>if (Z7 rs p r s.1 s.2.getLast?).isEmpty=true∧s.2.length≤1000 then (match Zy (Zn rs p r s) f w with
   | some (f',w')=>bfs rs n f' w'
   | none=>none) else none
  | _,_=>none
noncomputable def jE (rs:List Row):Option Fnd:=bfs rs 300 ((List.replicate rs.length none).set 0 (some (0,[]))) [0]
abbrev zU (K:ko) (H:Hp):List V→Fnd→Prop:=Paired fun x o=>match o with
 | none=>x=.non
 | some st=>∃a,x=.ref a∧StA K H a st
theorem zU.keep {K:ko} {H H':Hp} {xs:List V} {os:Fnd} (h:zU K H xs os) (s:qg H H'):zU K H' xs os:=Paired.mapP h fun _ o z=>by
 cases o with
 | none=>exact z
 | some st=>
  obtain ⟨a,h1,h2⟩:=z
  exact ⟨a,h1,h2.keep s⟩
theorem zU.get {K:ko} {H:Hp} {xs:List V} {os:Fnd} {j:Nat} {o:Option Sta} (h:zU K H xs os):os[j]?=some o→∃x,xs[j]?=some x∧(match o with | none=>x=.non | some st=>∃a,x=.ref a∧StA K H a st):=z4H h
theorem zU.set {K:ko} {H:Hp} {a:Addr} {st:Sta} (hs:StA K H a st):∀{xs:List V} {os:Fnd} (j:Nat),zU K H xs os→zU K H (xs.set j (.ref a)) (os.set j (some st))
 | _,_,_,.nil=>.nil
 | _,_,0,.cons _ t=>.cons ⟨a,rfl,hs⟩ t
 | _,_,j+1,.cons h t=>.cons h (zU.set hs j t)
theorem ZK (K:ko) (H:Hp):∀n:Nat,zU K H (List.replicate n V.non) (List.replicate n none)
 | 0=>.nil
 | n+1=>.cons rfl (ZK K H n)
def Jp (H:Hp) (kvs:List (Key × V)) (f:Fnd) (B:Nat):Prop:=∀(p:Nat) st,f[p]?=some (some st)→∃t ns,valV kvs (Sum.inl (p:Int):Key)=some (.ref t)∧H t=some (.tup ns)∧ns≠[]∧ns.length≤B
theorem Jp.keep {H H':Hp} {kvs:List (Key × V)} {f:Fnd} {B:Nat} (h:Jp H kvs f B) (s:qg H H'):Jp H' kvs f B:=fun p st e=>let ⟨t,ns,h1,h2,h3⟩:=h p st e;⟨t,ns,h1,s _ _ h2 rfl,h3⟩
theorem Jp.mono {H:Hp} {kvs:List (Key × V)} {f:Fnd} {B B':Nat} (h:Jp H kvs f B) (hb:B≤B'):Jp H kvs f B':=fun p st e=>let ⟨t,ns,h1,h2,h3,h4⟩:=h p st e;⟨t,ns,h1,h2,h3,km h4 hb⟩
structure Srch (K:ko) (H0 H:Hp) (d fl wd wl:Addr) (rs:List Row) (f:Fnd) (w:List Nat) (B C:Nat):Prop where
 same:Same H0 H
 labs:∃kvs,H d=some (.dK kvs)∧Zw kvs rs
 nf:H0 fl=none
 nw:H0 wd=none
 nl:H0 wl=none
 fnd:∃fvs,H fl=some (.lst fvs)∧zU K H fvs f
 wks:∃kvs,H wd=some (.dK kvs)∧Jp H kvs f B∧kvs.length≤C
 wts:H wl=some (.lst (w.map fun p=>V.int (p:Nat)))
 wlen:w.length≤C
 flen:f.length=rs.length
 nd:d≠wd
 nfw:fl≠wl
theorem Srch.same' {K:ko} {H0 H H':Hp} {d fl wd wl:Addr} {rs:List Row} {f:Fnd} {w:List Nat} {B C:Nat} (h:Srch K H0 H d fl wd wl rs f w B C) (s:Same H H'):Srch K H0 H' d fl wd wl rs f w B C:=by
 obtain ⟨a1,⟨kv,b1,b2⟩,a3,a4,a5,⟨fvs,a6,a7⟩,⟨kvs,a8,a9,a10⟩,a11,a12,a13,a14,a15⟩:=h
 have kt:=qg.of s
 exact ⟨a1.trans s,⟨kv,s _ _ b1,b2⟩,a3,a4,a5,⟨fvs,s _ _ a6,a7.keep kt⟩,⟨kvs,s _ _ a8,a9.keep kt,a10⟩,s _ _ a11,a12,a13,a14,a15⟩
theorem Srch.more {K:ko} {H0 H:Hp} {d fl wd wl:Addr} {rs:List Row} {f:Fnd} {w:List Nat} {B B' C C':Nat} (h:Srch K H0 H d fl wd wl rs f w B C) (hb:B≤B') (hc:C≤C'):Srch K H0 H d fl wd wl rs f w B' C':=by
 obtain ⟨a1,a2,a3,a4,a5,a6,⟨kvs,a8,a9,a10⟩,a11,a12,a13,a14,a15⟩:=h
 exact ⟨a1,a2,a3,a4,a5,a6,⟨kvs,a8,a9.mono hb,by lia⟩,a11,by lia,a13,a14,a15⟩
theorem Srch.code {K:ko} {H0 H:Hp} {l d fl wd wl:Addr} {as:List Addr} {rs:List Row} {f:Fnd} {w:List Nat} {B C:Nat} (h:Srch K H0 H d fl wd wl rs f w B C) (hS:SqL K H0 l (as.map V.ref)) (hR:zp H0 as rs) (hc:Code rs):QU K H l d rs:=
 ⟨⟨as,h.same.seq hS,hR.same h.same⟩,hc,h.labs⟩
theorem Srch.pop {K:ko} {H0 H:Hp} {d fl wd wl:Addr} {rs:List Row} {f:Fnd} {p:Nat} {w:List Nat} {B C:Nat} (h:Srch K H0 H d fl wd wl rs f (p :: w) B C):Srch K H0 (upd H wl (.lst (w.map fun p=>V.int (p:Nat)))) d fl wd wl rs f w B C:=by
 obtain ⟨a1,⟨kv,b1,b2⟩,a3,a4,a5,⟨fvs,a6,a7⟩,⟨kvs,a8,a9,a10⟩,a11,a12,a13,a14,a15⟩:=h
 have kt:=qg.upd (o:=.lst (w.map fun p=>V.int (p:Nat))) a11 rfl
 exact ⟨fun b o e=>by rw [zc (z8 e a5)];exact a1 _ _ e,⟨kv,by rw [zc (jW b1 a11 nofun)];exact b1,b2⟩,a3,a4,a5,⟨fvs,by rw [zc a15];exact a6,a7.keep kt⟩,
  ⟨kvs,by rw [zc (jW a8 a11 nofun)];exact a8,a9.keep kt,a10⟩,z6,by simp at a12;lia,a13,a14,a15⟩
theorem Srch.put {K:ko} {H0 H:Hp} {d fl wd wl:Addr} {rs:List Row} {f:Fnd} {w:List Nat} {B C:Nat} (h:Srch K H0 H d fl wd wl rs f w B C) {j:Nat} {a t:Addr} {st:Sta} {ns fvs:List V} {kvs:List (Key × V)} (hf:H fl=some (.lst fvs)) (hw:H wd=some (.dK kvs))
  (hs:StA K H a st) (ht:H t=some (.tup ns)) (hn:ns≠[]) (hl:ns.length≤B) (hj:f[j]?=some none):
  Srch K H0 (upd (upd (upd H fl (.lst (fvs.set j (.ref a)))) wd (.dK (putK kvs (Sum.inl (j:Int)) (.ref t)))) wl (.lst ((w.map fun p=>V.int (p:Nat))++[V.int (j:Nat)]))) d fl wd wl rs (f.set j (some st)) (w++[j]) B (C+1):=by
 obtain ⟨a1,⟨kv,b1,b2⟩,a3,a4,a5,⟨fvs',a6,a7⟩,⟨kvs',a8,a9,a10⟩,a11,a12,a13,a14,a15⟩:=h
 rw [hf] at a6
 cases a6
 rw [hw] at a8
 cases a8
 have nwf:wd≠fl:=jW hw hf nofun
 have nwl:wd≠wl:=jW hw a11 nofun
 have k1:=qg.upd (o:=.lst (fvs.set j (.ref a))) hf rfl
 have e2:(upd H fl (.lst (fvs.set j (.ref a)))) wd=some (.dK kvs):=by rw [zc nwf];exact hw
 have k2:=k1.trans (qg.upd (o:=.dK (putK kvs (Sum.inl (j:Int)) (.ref t))) e2 rfl)
 have e3:(upd (upd H fl (.lst (fvs.set j (.ref a)))) wd (.dK (putK kvs (Sum.inl (j:Int)) (.ref t)))) wl=some (.lst (w.map fun p=>V.int (p:Nat))):=by rw [zc nwl.symm,zc a15.symm];exact a11
 have k3:=k2.trans (qg.upd (o:=.lst ((w.map fun p=>V.int (p:Nat))++[V.int (j:Nat)])) e3 rfl)
 refine ⟨fun b o e=>by rw [zc (z8 e a5),zc (z8 e a4),zc (z8 e a3)];exact a1 _ _ e,⟨kv,by rw [zc (jW b1 a11 nofun),zc a14,zc (jW b1 hf nofun)];exact b1,b2⟩,a3,a4,a5,
  ⟨_,by rw [zc a15,zc nwf.symm];exact z6,(a7.set hs j).keep k3⟩,⟨_,by rw [zc nwl];exact z6,fun p st' e=>?_,?_⟩,?_,by simp;lia,by simp [a13],a14,a15⟩
 ·rw [ZN]
  by_cases z:p=j
  ·subst z
   rw [kr rfl]
   exact ⟨t,ns,rfl,k3 _ _ ht rfl,hn,hl⟩
  ·rw [kq (fun y=>z (by injection y with y;lia))]
   rw [List.getElem?_set,kq (fun y=>z y.symm)] at e
   obtain ⟨t',ns',h1,h2,h3⟩:=a9 p st' e
   exact ⟨t',ns',h1,k3 _ _ h2 rfl,h3⟩
 ·have:=qi kvs (Sum.inl (j:Int):Key) (V.ref t)
  lia
 ·rw [z6,kD]
  rfl
section
def ZF (K:ko):Sp:=fun vs H Q _=>∃l as rs fin,vs=[.ref l]∧SqL K H l (as.map V.ref)∧zp H as rs∧Code rs∧jE rs=some fin∧
 ∀t fl fvs H',Same H H'→H t=none→H fl=none→H' t=some (.tup [.ref fl,.non])→H' fl=some (.lst fvs)→zU K H' fvs fin→Q (.ref t) H'
theorem sc53:zh ["code","labels","found","walks","waiting","place","words","goal","state","walk"] ["code"] (zd (top 53)):=fsM
theorem pop0 {xs:List V} {y:V} {ys:List V} (h:xs=y :: ys):seqIndex? 0 xs.length=some 0∧xs[0]?=some y∧xs.eraseIdx 0=ys:=by
 subst h
 refine ⟨?_,rfl,rfl⟩
 unfold seqIndex?
 simp
noncomputable def st54:Stmt:=match (zH (top 53)).getD 5 (.Pass ⟨0,0,0,0⟩) with
 | .While _ b _ _=>b.getD 3 (.Pass ⟨0,0,0,0⟩)
 | s=>s
noncomputable abbrev N54:List Str:=["code","labels","found","walks","waiting","place","words","goal","state","walk"]
def z4D (K:ko) (H:Hp) (l:Addr) (rs:List Row):TS:=fun D σ H3=>∃(d fl wd wl:Addr) (p:Nat) (r:Row) (st:Sta) (n:Nat) (v6 v7 v8 v9:Option V) (fo:Fnd) (wa:List Nat) (foE:Fnd) (waE:List Nat),
 σ=[some (.ref l),some (.ref d),some (.ref fl),some (.ref wd),some (.ref wl),some (.int (p:Nat)),v6,v7,v8,v9]∧n≤299∧rs[p]?=some r∧fo[p]?=some (some st)∧st.2.length≤1000∧Zy (Zn rs p r st) fo wa=some (foE,waE)∧
 Srch K H H3 d fl wd wl rs fo wa (300 - n) (3 * (300 - n))∧∀σ' H',(∃v5 v6 v7 v8 v9,σ'=[some (.ref l),some (.ref d),some (.ref fl),some (.ref wd),some (.ref wl),v5,v6,v7,v8,v9])→Srch K H H' d fl wd wl rs foE waE (301 - n) (3 * (301 - n))→D.nx σ' H'
theorem z1K {α:Type} {l:List α} {i:Nat} {x:α} (h:l[i]?=some x):l.drop i=x :: l.drop (i+1):=by
 obtain ⟨hi,e⟩:=kd.mp h
 rw [←e]
 exact List.drop_eq_getElem_cons hi
theorem z5K {f:Addr} {cdv:Value} {A:Around} {outer:List Env} {s:Shared} {H:Hp} {E:XK} {l:Addr} {as:List Addr} {rs:List Row} (hr:Room 7 (A.deeper (envOfC "searched" (zd (top 53)) s.heap.objs.size f cdv)))
  (hS:SqL K H l (as.map V.ref)) (hR:zp H as rs) (hc:Code rs) (FN':FN P w K mg base 4 "next_states" ["code","labels","place","state"] (Jt K)):
  PS (cxOf CX0 P w K mg base N54 "searched" (zd (top 53)) f cdv A outer s H E).nox st54 (z4D K H l rs):=by
 have hu:=z2z hr
 have hu3:(A.deeper (envOfC "searched" (zd (top 53)) s.heap.objs.size f cdv)).units+3 < cLine:=by have:=hr.un;lia
 have hr4:=hr.mono (show 4≤7 by decide)
 refine PS.imp (jg PassesOwn.never rfl (qd (zt FN' hr4 rfl (z0 (pv 0) (z0 (pv 1) (z0 (pv 5) (z0 (zC zE (pv 2) (pv 5) (fun _ _=>rfl)) z7))))))
    (jr rfl (zr (zm (i:=7) sc53.nd rfl (Or.inl rfl)) (zr (zm (i:=8) sc53.nd rfl (Or.inl rfl)) qp)))
    (zb (zw (i:=9) sc53.nd rfl (Or.inl rfl) (zI z1b (J7 hu (pv 3) (pv 5) (fun _ _=>rfl)) (qz (z0 (pv 7) z7))))
    (ze (qc (zq Qt (zC zE (pv 2) (pv 7) (fun _ _=>rfl)) qA (zu _))
     (zb (j3 (pv 8) (jM (pv 2) (pv 7) qD)) (zb (z3O hu (pv 3) (pv 7) (pv 9) rfl) (ze (zQ (Qr (pv 4) (z0 (pv 7) z7))))))
     (ze (qc (zq (z3R hu3) (zC zE (pv 2) (pv 7) (fun _ _=>rfl)) (pv 8) (zu _)) qZ zA)))))) ?_
 rintro D σ H3 ⟨d,fl,wd,wl,p,r,st,n,v6,v7,v8,v9,fo,wa,foE,waE,rfl,hn,hrp,hfp,hz,hrel,S,k⟩
 obtain ⟨fvs,hfl2,hF⟩:=S.fnd
 obtain ⟨x,hx,hx2⟩:=hF.get hfp
 obtain ⟨sa,rfl,hsa⟩:=hx2
 refine ⟨_,rfl,_,rfl,_,rfl,_,rfl,_,rfl,fl,_,_,_,rfl,rfl,SqL.of hfl2,zj hx,l,d,p,sa,st,rs,r,rfl,S.code hS hR hc,hrp,hsa,hz,fun nl ts H4 s4 hn4 hnl4 hN4=>?_⟩
 have hnlen:(Zn rs p r st).length≤3:=by unfold Zn;rw [kg];exact Qv ..
 generalize Zn rs p r st=ns at hrel hN4 hnlen
 have hts:ts.length=ns.length:=Paired.length hN4
 have S4:=S.same' s4
 obtain ⟨kvs,hwd,hW,hkl⟩:=S4.wks
 obtain ⟨tp,np,ht1,ht2,ht3,ht4⟩:=hW p st hfp
 refine ⟨nl,rfl,⟨_,SqL.of hnl4⟩,jy (K:=K) (a:=nl) (xs:=ts.map V.ref) (fun i σ H'=>∃v7 v8 v9 fo' wa',σ=[some (.ref l),some (.ref d),some (.ref fl),some (.ref wd),some (.ref wl),some (.int (p:Nat)),v6,v7,v8,v9]∧i≤3∧
   Zy (ns.drop i) fo' wa'=some (foE,waE)∧fo'[p]?=some (some st)∧Srch K H H' d fl wd wl rs fo' wa' (301 - n) (3 * (300 - n)+i)∧(∃kvs,H' wd=some (.dK kvs)∧valV kvs (Sum.inl (p:Int):Key)=some (.ref tp))∧H' tp=some (.tup np)∧
   H' nl=some (.lst (ts.map V.ref))∧NxIn K H' ts ns)
  ⟨v7,v8,v9,fo,wa,rfl,by decide,hrel,hfp,S4.more (by lia) (by lia),⟨kvs,hwd,ht1⟩,ht2,hnl4,hN4⟩ (fun i σ H' _ ⟨_,_,_,_,_,_,_,_,_,_,_,_,h,_⟩=>SqL.of h) ?_ ?_⟩
 ·rintro i x σ H' hi ⟨v7,v8,v9,fo',wa',rfl,hi3,hrel',hfp',S',⟨kvs',hwd',hv'⟩,htp',hnl',hN'⟩
  obtain ⟨t,nx,a,rfl,hnx,ht,hst⟩:=hN'.get hi
  have hil:i < ts.length:=by have:=(kd.mp hi).1;simpa using this
  rw [z1K hnx] at hrel'
  obtain ⟨goal,st'⟩:=nx
  refine ⟨t,_,rfl,SqT.of ht,rfl,_,_,rfl,_,_,rfl,rfl,?_⟩
  have hgd:DGet H' wd (.int (p:Nat)) (some (.ref tp)):=by rw [←hv'];exact DGet.k (k:=Sum.inl (p:Int)) hwd'
  refine ⟨_,rfl,_,rfl,wd,_,rfl,hgd,_,rfl,by show 1≤sizeLine;decide,fun p2 hp2=>?_⟩
  have t2:=zg hp2 (.tup [goal])
  refine ⟨tp,p2,np,[goal],rfl,rfl,SqT.of (t2 _ _ htp'),SqT.of z6,ht3,by rw [sizeLine_eq];show np.length+1≤_;lia,nofun,fun _ p3 hp3=>?_⟩
  have t3:=zg hp3 (.tup (np++[goal]))
  have t23:=t2.trans t3
  have S2:=S'.same' t23
  have hwd2:=t23 _ _ hwd'
  have hnl2:=t23 _ _ hnl'
  have hN2:=hN'.keep (qg.of t23)
  have hst2:=hst.same t23
  have htp2:=t23 _ _ htp'
  have hp33:(upd (upd H' p2 (.tup [goal])) p3 (.tup (np++[goal]))) p3=some (.tup (np++[goal])):=z6
  generalize upd (upd H' p2 (.tup [goal])) p3 (.tup (np++[goal]))=H5 at *
  obtain ⟨fv,hfl5,hF5⟩:=S2.fnd
  unfold Zy at hrel'
  cases goal with
  | int j=>
   dsimp only at hrel'
   by_cases hj0:0≤j
   case neg=>rw [kq hj0] at hrel';cases hrel'
   rw [kr hj0] at hrel'
   obtain ⟨jn,rfl⟩:=kQ hj0
   rw [kR] at hrel'
   cases hfj:fo'[jn]? with
   | none=>rw [hfj] at hrel';cases hrel'
   | some o=>
    obtain ⟨y,hy,hy2⟩:=hF5.get hfj
    rw [hfj] at hrel'
    refine ⟨_,rfl,_,rfl,fl,_,_,_,rfl,rfl,SqL.of hfl5,zj hy,rfl,_,rfl,?_⟩
    cases o with
    | none=>
     dsimp only at hrel' hy2
     subst hy2
     have npj:p≠jn:=fun z=>by rw [z,hfj] at hfp';cases hfp'
     have jlt:jn < fv.length:=(kd.mp hy).1
     have Sp:=S2.put (t:=p3) hfl5 hwd2 hst2 hp33 (by simp) (by rw [kh];show np.length+1≤_;lia) hfj
     have nwf:wd≠fl:=jW hwd2 hfl5 nofun
     have nlf:nl≠fl:=fun z=>by rw [z] at hn4;rw [S.fnd.choose_spec.1] at hn4;cases hn4
     have nlw:nl≠wl:=fun z=>by rw [z] at hn4;rw [S.wts] at hn4;cases hn4
     refine iteT ⟨_,rfl,_,rfl,_,rfl,fl,fv,_,jn,rfl,rfl,hfl5,?_,?_⟩
     ·unfold ixN
      rw [kr hj0,kr (by lia),kR]
     refine ⟨_,rfl,_,rfl,_,rfl,wd,_,rfl,DPut.k (k:=Sum.inl (jn:Int)) (by rw [zc nwf];exact hwd2) ?_,?_⟩
     ·obtain ⟨kk,e1,_,e3⟩:=S2.wks
      rw [hwd2] at e1
      cases e1
      rw [sizeLine_eq];lia
     have hwl5:(upd (upd H5 fl (.lst (fv.set jn (.ref a)))) wd (.dK (putK kvs' (Sum.inl (jn:Int)) (.ref p3)))) wl=some (.lst (wa'.map fun p=>V.int (p:Nat))):=by
      rw [zc (jW S2.wts hwd2 nofun),zc S2.nfw.symm];exact S2.wts
     refine ⟨_,rfl,.inl ⟨rfl,_,SqL.of hwl5⟩,_,rfl,wl,_,_,rfl,rfl,hwl5,?_,?_⟩
     ·rw [kg]
      have:=S2.wlen
      rw [sizeLine_eq];lia
     have kt:qg H5 (upd (upd (upd H5 fl (.lst (fv.set jn (.ref a)))) wd (.dK (putK kvs' (Sum.inl (jn:Int)) (.ref p3)))) wl (.lst ((wa'.map fun p=>V.int (p:Nat))++[V.int (jn:Nat)]))):=
      ((qg.upd hfl5 rfl).trans (qg.upd (u:=.dK kvs') (by rw [zc nwf];exact hwd2) rfl)).trans (qg.upd hwl5 rfl)
     refine ⟨_,_,_,_,_,rfl,by lia,hrel',by rw [List.getElem?_set,kq npj.symm];exact hfp',Sp.more (kc _) (by lia),⟨_,by rw [zc (jW hwd2 S2.wts nofun)];exact z6,?_⟩,kt _ _ htp2 rfl,?_,hN2.keep kt⟩
     ·rw [ZN,kq (fun z=>npj (by injection z with z;lia))];exact hv'
     ·rw [zc nlw,zc (jW hnl2 hwd2 nofun),zc nlf];exact hnl2
    | some s'=>
     dsimp only at hrel' hy2
     obtain ⟨a',rfl,hst'⟩:=hy2
     by_cases hs:s'=st'
     case neg=>rw [kq hs] at hrel';cases hrel'
     rw [kr hs] at hrel'
     subst hs
     refine iteF ⟨_,rfl,_,rfl,fl,_,_,_,rfl,rfl,SqL.of hfl5,zj hy,_,rfl,a',a,s',rfl,rfl,hst',hst2,false,rfl,iteF ?_⟩
     exact ⟨_,_,_,_,_,rfl,by lia,hrel',hfp',S2.more (kc _) (by lia),⟨kvs',hwd2,hv'⟩,htp2,hnl2,hN2⟩
  | _=>cases hrel'
 ·rintro σ H' ⟨v7,v8,v9,fo',wa',rfl,hi3,hrel',hfp',S',_⟩
  have hdr:ns.drop (ts.map V.ref).length=[]:=by rw [kg,hts];simp
  rw [hdr] at hrel'
  unfold Zy at hrel'
  cases hrel'
  exact k _ H' ⟨_,_,_,_,_,rfl⟩ (S'.more (kc _) (by rw [kg] at *;lia))
end
section
noncomputable def z5t:Stmt:=(zH (top 53)).getD 5 (.Pass ⟨0,0,0,0⟩)
def z5v (K:ko) (H:Hp) (l:Addr) (rs:List Row) (fin:Fnd):TS:=fun D σ H3=>∃(d fl wd wl:Addr) (f0:Fnd),σ=[some (.ref l),some (.ref d),some (.ref fl),some (.ref wd),some (.ref wl),none,none,none,none,none]∧bfs rs 300 f0 [0]=some fin∧
 Srch K H H3 d fl wd wl rs f0 [0] (301 - 300) (3 * (301 - 300))∧∀v1 v3 v4 v5 v6 v7 v8 v9 fvs H',Same H H'→H fl=none→H' fl=some (.lst fvs)→zU K H' fvs fin→D.nx [some (.ref l),v1,some (.ref fl),v3,v4,v5,v6,v7,v8,v9] H'
theorem z3B {f:Addr} {cdv:Value} {A:Around} {outer:List Env} {s:Shared} {H:Hp} {E:XK} {l:Addr} {as:List Addr} {rs:List Row} {fin:Fnd} (hr:Room 7 (A.deeper (envOfC "searched" (zd (top 53)) s.heap.objs.size f cdv)))
  (hS:SqL K H l (as.map V.ref)) (hR:zp H as rs) (hc:Code rs) (FS:FN P w K mg base 5 "state_words" ["code","labels","place","state"] (spSw K)) (FN':FN P w K mg base 4 "next_states" ["code","labels","place","state"] (Jt K)):
  PS (cxOf CX0 P w K mg base N54 "searched" (zd (top 53)) f cdv A outer s H E).nox z5t (z5v K H l rs fin):=by
 have hr5:=hr.mono (show 5≤7 by decide)
 refine PS.imp (Jz PassesOwn.never (Z2 (pv 4) (fun _=>rfl))
   (zb (zw (i:=5) sc53.nd rfl (Or.inl rfl) (ZY PySem.F.plainAttrs_list PySem.F.slot_list_pop PySem.F.type_list_pop z2s (pv 4) (z0 zf z7)))
   (zb (zw (i:=6) sc53.nd rfl (Or.inl rfl) (zt FS hr5 rfl (z0 (pv 0) (z0 (pv 1) (z0 (pv 5) (z0 (zC zE (pv 2) (pv 5) (fun _ _=>rfl)) z7))))))
   (zb (qc (Z2 (pv 6) (fun _=>rfl)) qZ zA)
   (ze (z5K hr hS hR hc FN')))))) ?_
 rintro D σ H3 ⟨d,fl,wd,wl,f0,rfl,hfin,jh,q⟩
 refine ⟨fun m σ H2=>∃fo wa v5 v6 v7 v8 v9,σ=[some (.ref l),some (.ref d),some (.ref fl),some (.ref wd),some (.ref wl),v5,v6,v7,v8,v9]∧m≤300∧bfs rs m fo wa=some fin∧Srch K H H2 d fl wd wl rs fo wa (301 - m) (3 * (301 - m)),⟨300,f0,[0],none,none,none,none,none,rfl,kc _,hfin,jh⟩,?_⟩
 clear jh
 rintro m σ H2 ⟨fo,wa,v5,v6,v7,v8,v9,rfl,hm,hb,S⟩
 refine ⟨_,rfl,!wa.isEmpty,.inl ⟨_,SqL.of S.wts,by rw [List.isEmpty_map]⟩,?_⟩
 cases wa with
 | nil=>
  have hb:some fo=some fin:=by unfold bfs at hb;exact hb
  cases hb
  obtain ⟨fvs,hfl2,hF⟩:=S.fnd
  exact iteF (q _ _ _ _ _ _ _ _ fvs H2 S.same S.nf hfl2 hF)
 | cons p wa=>
  cases m with
  | zero=>unfold bfs at hb;cases hb
  | succ n=>
   unfold bfs at hb
   cases hrp:rs[p]? with
   | none=>rw [hrp] at hb;cases hb
   | some r=>
    cases hfp:fo[p]? with
    | none=>rw [hrp,hfp] at hb;cases hb
    | some o=>
     cases o with
     | none=>rw [hrp,hfp] at hb;cases hb
     | some st=>
      rw [hrp,hfp] at hb
      dsimp only at hb
      by_cases hw:(Z7 rs p r st.1 st.2.getLast?).isEmpty=true∧st.2.length≤1000
      case neg=>rw [kq hw] at hb;cases hb
      rw [kr hw] at hb
      obtain ⟨hw,hz⟩:=hw
      cases hrel:Zy (Zn rs p r st) fo wa with
      | none=>rw [hrel] at hb;cases hb
      | some fw=>
       obtain ⟨foE,waE⟩:=fw
       rw [hrel] at hb
       dsimp only at hb
       refine iteT ⟨fun σ' H'=>∃v5 v6 v7 v8 v9,σ'=[some (.ref l),some (.ref d),some (.ref fl),some (.ref wd),some (.ref wl),v5,v6,v7,v8,v9]∧Srch K H H' d fl wd wl rs foE waE (301 - n) (3 * (301 - n)),fun σ' H' ⟨v5,v6,v7,v8,v9,e,S'⟩=>⟨n,Nat.lt_succ_self _,foE,waE,v5,v6,v7,v8,v9,e,by lia,hb,S'⟩,?_⟩
       obtain ⟨k1,k2,k3⟩:=pop0 (xs:=(p :: wa).map fun p=>V.int (p:Nat)) rfl
       refine ⟨_,rfl,.inl ⟨rfl,_,SqL.of S.wts⟩,wl,_,0,0,_,rfl,rfl,S.wts,by decide,by decide,k1,k2,?_⟩
       rw [k3]
       have S1:=S.pop
       generalize upd H2 wl (.lst (wa.map fun p=>V.int (p:Nat)))=H3 at S1
       obtain ⟨fvs,hfl2,hF⟩:=S1.fnd
       obtain ⟨x,hx,hx2⟩:=hF.get hfp
       obtain ⟨sa,rfl,hsa⟩:=hx2
       refine ⟨_,rfl,_,rfl,_,rfl,_,rfl,_,rfl,fl,_,_,_,rfl,rfl,SqL.of hfl2,zj hx,l,d,p,sa,st,rs,r,rfl,S1.code hS hR hc,hrp,hsa,fun wf H4 s4 hn4 hwf=>?_⟩
       refine ⟨_,rfl,false,.inl ⟨_,SqL.of hwf,by rw [List.isEmpty_map,hw];rfl⟩,iteF ?_⟩
       exact ⟨d,fl,wd,wl,p,r,st,n,_,_,_,_,fo,wa,foE,waE,rfl,by lia,hrp,hfp,hz,hrel,(S1.same' s4).more (by lia) (by lia),fun σ' H' ⟨v5,v6,v7,v8,v9,e⟩ S'=>⟨v5,v6,v7,v8,v9,e,S'⟩⟩
theorem Jg (D:zo K mg "searched" (top 53)) (G:Glo mg) (T:z31 w K mg) (FL:FN P w K mg base 7 "label_places" ["rows"] (z0J K)) (FS:FN P w K mg base 5 "state_words" ["code","labels","place","state"] (spSw K)) (FN':FN P w K mg base 4 "next_states" ["code","labels","place","state"] (Jt K)):
  FN P w K mg base 8 "searched" ["code"] (ZF K):=by
 refine FN.o D sc53 fun f cdv A outer s H vs Q E hr h=>?_
 obtain ⟨l,as,rs,fin,rfl,hS,hR,hc,hfin,q⟩:=h
 have hu:=z2z hr
 have hu3:(A.deeper (envOfC "searched" (zd (top 53)) s.heap.objs.size f cdv)).units+3 < cLine:=by have:=hr.un;lia
 obtain ⟨fa,fg,mfa,tfa,tfg⟩:=T.first
 have hr5:=hr.mono (show 5≤7 by decide)
 have hr4:=hr.mono (show 4≤7 by decide)
 refine ⟨_,zb (zw (i:=1) sc53.nd rfl (Or.inl rfl) (zt FL hr rfl (z0 (pv 0) z7)))
  (zb (zw (i:=2) sc53.nd rfl (Or.inl rfl) (zI z4O (qr (z0 qA z7)) (zl zk rfl G.len zF (z0 (pv 0) z7))))
  (zb (j3 (jH rfl mfa (v:=.ref fa) rfl) (jM (pv 2) zf qD))
  (zb (zw (i:=3) sc53.nd rfl (Or.inl rfl) (z17 (jp zf (qz (z0 zf z7)) z0Y) rfl rfl nofun (by decide)))
  (zb (zw (i:=4) sc53.nd rfl (Or.inl rfl) (qr (z0 zf z7)))
  (zb (z3B (fin:=fin) hr hS hR hc FS FN')
  (ze (zi (qz (z0 (pv 2) (z0 qA z7)))))))))),?_⟩
 have hlen:=hc.hi
 have hlo:=hc.lo
 refine ⟨_,rfl,l,as,rs,rfl,hS,hR,hc.ok,by lia,fun d kvs0 H1 hd0 s1 hd1 hL=>?_⟩
 have hll:as.length=rs.length:=hR.len
 refine ⟨by show 1≤sizeLine;decide,fun p0 hp0=>?_⟩
 have t0:=zg hp0 (.lst [V.non])
 refine ⟨_,rfl,l,_,rfl,.inl (t0.seq (s1.seq hS)),p0,_,[V.non],rfl,rfl,z6,?_,?_,?_,fun fl hfl=>?_⟩
 ·rw [kg];lia
 ·rw [kg];lia
 ·rw [kg]
  show 1 * ((as.length:Nat):Int).toNat≤sizeLine
  rw [sizeLine_eq,kR];lia
 have efl:(List.replicate (((as.map V.ref).length:Nat):Int).toNat [V.non]).flatten=List.replicate rs.length V.non:=by
  rw [kR,kg,hll]
  generalize rs.length=n
  induction n with
  | zero=>rfl
  | succ n ih=>rw [List.replicate_succ,List.flatten_cons,ih];rfl
 rw [efl]
 have sA:Same H (upd H1 p0 (.lst [V.non])):=s1.trans t0
 have hfl0:H fl=none:=sA.free hfl
 have nfd:d≠fl:=z8 (t0 _ _ hd1) hfl
 refine ⟨_,rfl,fl,_,0,0,rfl,rfl,z6,?_,?_⟩
 ·unfold ixN
  rw [kr (by decide),kr (by rw [List.length_replicate];lia)]
  rfl
 rw [z3F]
 have f0:zU K (upd (upd H1 p0 (.lst [V.non])) fl (.lst ((List.replicate rs.length V.non).set 0 (.ref fa)))) ((List.replicate rs.length V.non).set 0 (.ref fa)) ((List.replicate rs.length none).set 0 (some (0,[]))):=
  zU.set (st:=(0,[])) ⟨fg,tfa.sq _,[],tfg.sq _,.nil⟩ 0 (ZK _ _ _)
 generalize hfv:(List.replicate rs.length V.non).set 0 (V.ref fa)=fvs0 at f0
 intro wd hwd
 have sB:Same H (upd (upd H1 p0 (.lst [V.non])) fl (.lst fvs0)):=fun b o e=>by rw [zc (z8 e hfl0)];exact sA _ _ e
 generalize hHB:upd (upd H1 p0 (.lst [V.non])) fl (.lst fvs0)=HB at *
 have hflB:HB fl=some (.lst fvs0):=by rw [←hHB];exact z6
 have hdB:HB d=some (.dK kvs0):=by rw [←hHB,zc nfd];exact t0 _ _ hd1
 have hwd0:H wd=none:=sB.free hwd
 have s3:=zg hwd (.dK [])
 refine ⟨by show 1≤sizeLine;decide,fun p1 hp1=>?_⟩
 have s4:=zg hp1 (.tup [V.int 0])
 refine ⟨s4 _ _ z6,[(Sum.inl 0,.ref p1)],rfl,(by show 1≤15;decide),?_⟩
 have em:jN [] [((Sum.inl 0:Key),V.ref p1)]=[(Sum.inl 0,V.ref p1)]:=rfl
 rw [em]
 refine ⟨by show 1≤sizeLine;decide,fun wl hwl=>?_⟩
 have npw:p1≠wd:=(z8 (H:=upd HB wd (.dK [])) z6 hp1).symm
 have hwl':wl≠wd:=fun z=>by rw [z,z6] at hwl;cases hwl
 have hwl2:(upd (upd HB wd (.dK [])) p1 (.tup [V.int 0])) wl=none:=by rw [zc hwl'] at hwl;exact hwl
 have sC:Same HB (upd (upd HB wd (.dK [])) p1 (.tup [V.int 0])):=s3.trans s4
 have hwlB:HB wl=none:=sC.free hwl2
 have sD:Same HB (upd (upd (upd (upd HB wd (.dK [])) p1 (.tup [V.int 0])) wd (.dK [(Sum.inl 0,V.ref p1)])) wl (.lst [V.int 0])):=fun b o e=>by
  rw [zc (z8 e hwlB),zc (z8 e hwd)];exact sC _ _ e
 generalize hHD:upd (upd (upd (upd HB wd (.dK [])) p1 (.tup [V.int 0])) wd (.dK [(Sum.inl 0,V.ref p1)])) wl (.lst [V.int 0])=HD at *
 have hp1D:HD p1=some (.tup [V.int 0]):=by
  rw [←hHD,zc (fun z=>by rw [←z,z6] at hwl2;cases hwl2),zc npw];exact z6
 have hwdD:HD wd=some (.dK [(Sum.inl 0,V.ref p1)]):=by rw [←hHD,zc hwl'.symm];exact z6
 have hwlD:HD wl=some (.lst [V.int 0]):=by rw [←hHD];exact z6
 have jh:Srch K H HD d fl wd wl rs ((List.replicate rs.length none).set 0 (some (0,[]))) [0] (301 - 300) (3 * (301 - 300)):=by
  refine ⟨sB.trans sD,⟨kvs0,sD _ _ hdB,hL⟩,hfl0,hwd0,sB.free hwlB,⟨fvs0,sD _ _ hflB,f0.keep (qg.of sD)⟩,⟨_,hwdD,fun p st e=>?_,(by show 1≤3;decide)⟩,hwlD,(by show 1≤3;decide),by simp,z8 hdB hwd,z8 hflB hwlB⟩
  have hp:p=0:=by
   rw [List.getElem?_set] at e
   by_cases z:0=p
   ·exact z.symm
   ·rw [kq z,List.getElem?_replicate] at e
    split at e <;> cases e
  subst hp
  exact ⟨p1,_,rfl,hp1D,nofun,(by show 1≤1;decide)⟩
 refine ⟨d,fl,wd,wl,_,rfl,hfin,jh,fun v1 v3 v4 v5 v6 v7 v8 v9 fvs H' s' _ h1 h2=>?_⟩
 refine ⟨_,rfl,by show 2≤sizeLine;decide,fun t ht=>?_⟩
 have st:=zg ht (.tup [V.ref fl,.non])
 exact q t fl fvs _ (s'.trans st) (s'.free ht) hfl0 z6 (st _ _ h1) (h2.keep (qg.of st))
end
section
def Js (K:ko):Sp:=fun vs H Q _=>∃l as rs fin,vs=[.ref l]∧H l=some (.lst (as.map V.ref))∧zp H as rs∧Code rs∧jE rs=some fin∧
 ∀fl fvs H',Same H H'→H fl=none→H' fl=some (.lst fvs)→zU K H' fvs fin→Q (.ref fl) H'
theorem sc54:zh ["code","found","reason"] ["code"] (zd (top 54)):=fsM
theorem z1A (D:zo K mg "states" (top 54)) (FC:FN P w K mg base 9 "check_code" ["thing"] z0M) (FS:FN P w K mg base 8 "searched" ["code"] (ZF K)):FN P w K mg base 10 "states" ["code"] (Js K):=by
 refine FN.o D sc54 fun f cdv A outer s H vs Q E hr h=>?_
 obtain ⟨l,as,rs,fin,rfl,hl,hR,hc,hfin,q⟩:=h
 refine ⟨_,zb (zQ (zt FC hr rfl (z0 (pv 0) z7)))
  (zb (j3 (zt FS (hr.mono (by decide)) rfl (z0 (pv 0) z7)) (jr rfl (zr (zm (i:=1) sc54.nd rfl (Or.inl rfl)) (zr (zm (i:=2) sc54.nd rfl (Or.inl rfl)) qp))))
  (zb (qc (zq ZZ (pv 2) qA (zu _)) qZ zA) (ze (zi (pv 1))))),?_⟩
 refine ⟨_,rfl,l,as,rs,rfl,hl,hR,hc,fun H1 s1=>?_⟩
 refine ⟨_,rfl,l,as,rs,fin,rfl,SqL.of (s1 _ _ hl),hR.same s1,hc,hfin,fun t fl fvs H2 s2 ht hfl h1 h2 h3=>?_⟩
 refine ⟨t,_,rfl,SqT.of h1,rfl,_,_,rfl,_,_,rfl,rfl,?_⟩
 exact ⟨_,rfl,rfl,_,rfl,iteF ⟨_,rfl,q fl fvs H2 (s1.trans s2) (s1.free hfl) h2 h3⟩⟩
end
structure z4i (rs:List Row) (S:Fnd):Prop where
 len:S.length=rs.length
 zero:S[0]?=some (some (0,[]))
 here:∀(p:Nat) r s,rs[p]?=some r→S[p]?=some (some s)→Z7 rs p r s.1 s.2.getLast?=[]∧s.2.length≤1000
 next:∀(p:Nat) r s,rs[p]?=some r→S[p]?=some (some s)→∀x s',(x,s')∈Zn rs p r s→∃j:Nat,x=.int (j:Int)∧S[j]?=some (some s')
def Sub (f S:Fnd):Prop:=∀(p:Nat) s,f[p]?=some (some s)→S[p]?=some (some s)
noncomputable def Q1 (f:Fnd):Nat:=(f.filter Option.isNone).length
theorem Zm:∀{f:Fnd} {j:Nat} {s:Sta},f[j]?=some none→Q1 (f.set j (some s))+1=Q1 f
 | [],_,_,h=>by cases h
 | o :: f,0,s,h=>by
  cases h
  rfl
 | o :: f,j+1,s,h=>by
  have ih:=Zm (f:=f) (j:=j) (s:=s) h
  unfold Q1 at ih ⊢
  rw [List.set_cons_succ,List.filter_cons,List.filter_cons]
  cases o with
  | none=>simp only [Option.isNone_none,if_true,kI];lia
  | some x=>simp only [Option.isNone_some,Bool.false_eq_true,if_false];exact ih
theorem ZR {S:Fnd}:∀(ns:List (V × Sta)) (f:Fnd) (w:List Nat),(∀x s',(x,s')∈ns→∃j:Nat,x=.int (j:Int)∧S[j]?=some (some s'))→f.length=S.length→Sub f S→(∀p∈w,∃s,f[p]?=some (some s))→
  ∃f' w',Zy ns f w=some (f',w')∧f'.length=S.length∧Sub f' S∧(∀p∈w',∃s,f'[p]?=some (some s))∧Q1 f'+w'.length=Q1 f+w.length∧(∀(p:Nat) s,f[p]?=some (some s)→f'[p]?=some (some s))
 | [],f,w,_,hl,hs,hw=>⟨f,w,rfl,hl,hs,hw,rfl,fun _ _ e=>e⟩
 | (x,s) :: ns,f,w,hn,hl,hs,hw=>by
  obtain ⟨j,rfl,hj⟩:=hn x s (kJ ..)
  have hjl:j < f.length:=by rw [hl];exact (kd.mp hj).1
  have hn':=fun x s' h=>hn x s' (kK _ h)
  unfold Zy
  dsimp only
  rw [kr (by lia),kR]
  cases e:f[j]? with
  | none=>rw [kE hjl] at e;cases e
  | some o=>
   cases o with
   | none=>
    dsimp only
    have keep:∀(p:Nat) s0,f[p]?=some (some s0)→(f.set j (some s))[p]?=some (some s0):=fun p s0 h=>by
     by_cases hp:p=j
     ·subst hp;rw [e] at h;cases h
     ·rw [List.getElem?_set_ne (Ne.symm hp)];exact h
    obtain ⟨f',w',h1,h2,h3,h4,h5,h6⟩:=ZR ns (f.set j (some s)) (w++[j]) hn' (by rw [List.length_set];exact hl)
     (fun p s0 h=>by
      by_cases hp:p=j
      ·subst hp
       rw [List.getElem?_set_self hjl] at h
       cases h
       exact hj
      ·rw [List.getElem?_set_ne (Ne.symm hp)] at h
       exact hs p s0 h)
     (fun p hp=>by
      rcases kL.mp hp with h | h
      ·obtain ⟨s0,h⟩:=hw p h
       exact ⟨s0,keep p s0 h⟩
      ·rw [kj.mp h]
       exact ⟨s,List.getElem?_set_self hjl⟩)
    refine ⟨f',w',h1,h2,h3,h4,?_,fun p s0 h=>h6 p s0 (keep p s0 h)⟩
    have:=Zm (s:=s) e
    rw [kh,kz] at h5
    lia
   | some s'=>
    have e2:s'=s:=by
     have:=hs j s' e
     rw [hj] at this
     cases this
     rfl
    dsimp only
    rw [kr e2]
    exact ZR ns f w hn' hl hs hw
theorem z3y {rs:List Row} {S:Fnd} (T:z4i rs S):∀(n:Nat) (f:Fnd) (w:List Nat),f.length=S.length→Sub f S→(∀p∈w,∃s,f[p]?=some (some s))→Q1 f+w.length≤n→
  ∃fin,bfs rs n f w=some fin∧fin.length=S.length∧Sub fin S
 | n,f,[],hl,hs,_,_=>⟨f,by cases n <;> rfl,hl,hs⟩
 | 0,f,p :: w,_,_,_,hn=>by simp at hn
 | n+1,f,p :: w,hl,hs,hw,hn=>by
  obtain ⟨s,hp⟩:=hw p (kJ ..)
  have hS:=hs p s hp
  have hpl:p < rs.length:=by rw [←T.len];exact (kd.mp hS).1
  have er:rs[p]?=some rs[p]:=kE hpl
  obtain ⟨h1,h2⟩:=T.here p rs[p] s er hS
  unfold bfs
  rw [er,hp]
  dsimp only
  rw [kr ⟨by rw [h1];rfl,h2⟩]
  obtain ⟨f',w',e1,e2,e3,e4,e5,_⟩:=ZR (Zn rs p rs[p] s) f w (T.next p rs[p] s er hS) hl hs fun q hq=>hw q (kK _ hq)
  rw [e1]
  dsimp only
  rw [kI] at hn
  exact z3y T n f' w' e2 e3 e4 (by lia)
theorem Qu:∀n:Nat,Q1 (List.replicate n none)=n
 | 0=>rfl
 | n+1=>by
  have ih:=Qu n
  unfold Q1 at ih ⊢
  rw [List.replicate_succ,List.filter_cons]
  simp only [Option.isNone_none,if_true,kI]
  lia
theorem z0E {rs:List Row} {S:Fnd} (T:z4i rs S) (hn:rs.length≤299):∃fin,jE rs=some fin∧fin.length=rs.length∧Sub fin S:=by
 have h0:0 < rs.length:=by rw [←T.len];exact (kd.mp T.zero).1
 have e0:(List.replicate rs.length (none:Option Sta))[0]?=some none:=by rw [List.getElem?_replicate,kr h0]
 have hset:=Zm (s:=((0,[]):Sta)) e0
 rw [Qu] at hset
 obtain ⟨fin,h1,h2,h3⟩:=z3y T 300 ((List.replicate rs.length none).set 0 (some (0,[]))) [0] (by rw [List.length_set,List.length_replicate,T.len])
  (fun p s h=>by
   by_cases hp:p=0
   ·subst hp
    rw [List.getElem?_set_self (by rw [List.length_replicate];exact h0)] at h
    cases h
    exact T.zero
   ·rw [List.getElem?_set_ne (Ne.symm hp),List.getElem?_replicate] at h
    split at h
    ·cases h
    ·cases h)
  (fun p hp=>by
   rw [kj.mp hp]
   exact ⟨_,List.getElem?_set_self (by rw [List.length_replicate];exact h0)⟩)
  (by show Q1 _+1≤300;lia)
 exact ⟨fin,h1,by rw [h2,T.len],h3⟩
noncomputable def Zz (r:Row) (s:Sta):Option Sta:=if inT r.op zO=true then none else some (zM r s.1,ql r s.1 s.2 (tabI zT r.op))
noncomputable def tgts (r:Row) (s:Sta):List (Int × Sta):=
 (if inT r.op jumping=true then [(argM r.arg,((if inT r.op leaving=true then s.1 else zM r s.1),s.2))] else [])++
 (if inT r.op faulting=true then (match s.2.getLast? with
  | some g=>[(g.1,(g.2+1,s.2.dropLast))]
  | none=>[]) else [])
noncomputable def j7 (r:Row) (s:Sta):Bool:= !decide (s.1 < qH r)&& !ZA r s.2.getLast?&& !jk r s.1 s.2.getLast?&&decide (s.2.length≤1000)
noncomputable def chk (Γ:Int→Option Sta):List Row→Option Sta→Option (Option Sta)
 | [],c=>some c
 | r :: l,c=>
  if r.op="label" then (match Γ (argM r.arg),c with
   | some s,some s'=>if s=s'∧j7 r s=true then chk Γ l (some s) else none
   | some s,none=>if j7 r s=true then chk Γ l (some s) else none
   | none,none=>chk Γ l none
   | none,some _=>none)
  else (match c with
   | none=>chk Γ l none
   | some s=>if j7 r s=true∧(tgts r s).all (fun t=>decide (Γ t.1=some t.2))=true then chk Γ l (Zz r s) else none)
noncomputable def stOf (Γ:Int→Option Sta):List Row→Option Sta→Fnd
 | [],_=>[]
 | r :: l,c=>
  if r.op="label" then Γ (argM r.arg) :: stOf Γ l (Γ (argM r.arg))
  else c :: stOf Γ l (match c with
   | none=>none
   | some s=>Zz r s)
theorem Z1 (Γ:Int→Option Sta):∀(l:List Row) (c:Option Sta),(stOf Γ l c).length=l.length
 | [],_=>rfl
 | r :: l,c=>by
  unfold stOf
  split
  ·rw [kI,Z1 Γ l,kI]
  ·rw [kI,Z1 Γ l,kI]
theorem z2X (Γ:Int→Option Sta) (r:Row) (l:List Row) (c:Option Sta):chk Γ (r :: l) c=
  if r.op="label" then (match Γ (argM r.arg),c with
   | some s,some s'=>if s=s'∧j7 r s=true then chk Γ l (some s) else none
   | some s,none=>if j7 r s=true then chk Γ l (some s) else none
   | none,none=>chk Γ l none
   | none,some _=>none)
  else (match c with
   | none=>chk Γ l none
   | some s=>if j7 r s=true∧(tgts r s).all (fun t=>decide (Γ t.1=some t.2))=true then chk Γ l (Zz r s) else none):=rfl
structure Fits (Γ:Int→Option Sta) (l:List Row) (S:Fnd) (i:Nat) (r:Row) (s:Sta):Prop where
 ok:j7 r s=true
 tg:∀t∈tgts r s,Γ t.1=some t.2
 nx:∀s',Zz r s=some s'→S[i+1]?=some (some s')
theorem Ja:inT "label" zO=false:=by trivial
theorem z0c (r:Row) (h:r.op="label") (s:Sta):Zz r s=some s:=by
 unfold Zz
 rw [h,Ja,kq ka]
 unfold zM
 rw [h]
 have e1:tabI qt "label"=0:=by trivial
 have e2:tabI qy "label"=0:=by trivial
 have e3:tabI zT "label"=0:=by trivial
 rw [e1,e2,e3]
 unfold ql
 rw [kq (by decide),kq (by decide)]
 simp
theorem z0a (r:Row) (h:r.op="label") (s:Sta):tgts r s=[]:=by
 unfold tgts
 have e1:inT "label" jumping=false:=by trivial
 have e2:inT "label" faulting=false:=by trivial
 rw [h,e1,e2,kq ka,kq ka]
 rfl
theorem QX {Γ:Int→Option Sta} {l:List Row} {s:Sta} {c':Option Sta} (h:chk Γ l (some s)=some c') (hc:c'=none):(stOf Γ l (some s))[0]?=some (some s):=by
 cases l with
 | nil=>cases h;cases hc
 | cons r l=>
  unfold chk at h
  unfold stOf
  by_cases hl:r.op="label"
  ·rw [kr hl] at h
   rw [kr hl]
   cases e:Γ (argM r.arg) with
   | none=>rw [e] at h;cases h
   | some s2=>
    rw [e] at h
    dsimp only at h
    by_cases hz:s2=s∧j7 r s2=true
    ·rw [hz.1];rfl
    ·rw [kq hz] at h;cases h
  ·rw [kq hl]
   rfl
theorem Z4 {Γ:Int→Option Sta}:∀(l:List Row) (c:Option Sta),chk Γ l c=some none→∀(i:Nat) r s,l[i]?=some r→(stOf Γ l c)[i]?=some (some s)→Fits Γ l (stOf Γ l c) i r s
 | [],_,_,i,r,s,hr,_=>by cases hr
 | r0 :: l,c,h,i,r,s,hr,hs=>by
  unfold chk at h
  unfold stOf at hs ⊢
  by_cases hl:r0.op="label"
  ·rw [kr hl] at h hs ⊢
   have go:∀{c2:Option Sta},Γ (argM r0.arg)=c2→chk Γ l c2=some none→(∀s0,c2=some s0→j7 r0 s0=true)→Fits Γ (r0 :: l) (Γ (argM r0.arg) :: stOf Γ l (Γ (argM r0.arg))) i r s:=by
    intro c2 e h2 hok
    rw [e] at hs ⊢
    cases i with
    | zero=>
     cases hr
     have es:c2=some s:=by simpa using hs
     subst es
     refine ⟨hok s rfl,fun t ht=>?_,fun s' hn=>?_⟩
     ·rw [z0a r0 hl] at ht;cases ht
     ·rw [z0c r0 hl] at hn
      cases hn
      exact QX h2 rfl
    | succ i=>
     have F:=Z4 l c2 h2 i r s hr hs
     exact ⟨F.ok,F.tg,F.nx⟩
   cases e:Γ (argM r0.arg) with
   | none=>
    rw [e] at h
    cases c with
    | some s'=>cases h
    | none=>have:=go e h (fun _ z=>by cases z);rw [e] at this;exact this
   | some s2=>
    rw [e] at h
    cases c with
    | some s'=>
     dsimp only at h
     by_cases hz:s2=s'∧j7 r0 s2=true
     ·rw [kr hz] at h
      have:=go e h (fun _ z=>by cases z;exact hz.2);rw [e] at this;exact this
     ·rw [kq hz] at h;cases h
    | none=>
     dsimp only at h
     by_cases hz:j7 r0 s2=true
     ·rw [kr hz] at h
      have:=go e h (fun _ z=>by cases z;exact hz);rw [e] at this;exact this
     ·rw [kq hz] at h;cases h
  ·rw [kq hl] at h hs ⊢
   cases c with
   | none=>
    dsimp only at h hs ⊢
    cases i with
    | zero=>cases hs
    | succ i=>
     have F:=Z4 l none h i r s hr hs
     exact ⟨F.ok,F.tg,F.nx⟩
   | some s0=>
    dsimp only at h hs ⊢
    by_cases hz:j7 r0 s0=true∧(tgts r0 s0).all (fun t=>decide (Γ t.1=some t.2))=true
    case neg=>rw [kq hz] at h;cases h
    rw [kr hz] at h
    cases i with
    | zero=>
     cases hr
     cases hs
     refine ⟨hz.1,fun t ht=>kw (List.all_eq_true.mp hz.2 t ht),fun s' hn=>?_⟩
     rw [hn] at h ⊢
     exact QX h rfl
    | succ i=>
     have F:=Z4 l _ h i r s hr hs
     exact ⟨F.ok,F.tg,F.nx⟩
theorem ZP {Γ:Int→Option Sta}:∀(l:List Row) (c:Option Sta) (q:Nat) (r:Row),l[q]?=some r→r.op="label"→(stOf Γ l c)[q]?=some (Γ (argM r.arg))
 | [],_,_,_,h,_=>by cases h
 | r0 :: l,c,0,r,h,hl=>by
  cases h
  unfold stOf
  rw [kr hl]
  rfl
 | r0 :: l,c,q+1,r,h,hl=>by
  unfold stOf
  split
  ·exact ZP l _ q r h hl
  ·exact ZP l _ q r h hl
theorem z4W {rs:List Row} {m:Int} {q:Nat} (h:zy rs m=some q):∃r,rs[q]?=some r∧r.op="label"∧argM r.arg=m:=by
 unfold zy at h
 obtain ⟨hq,hp,_⟩:=List.findIdx?_eq_some_iff_getElem.mp h
 refine ⟨rs[q],kE hq,?_⟩
 unfold labP at hp
 rw [kW,kX,kX] at hp
 exact ⟨hp.1,by rw [hp.2];rfl⟩
theorem z26 {rs:List Row} {Γ:Int→Option Sta} (hΓ:∀m s,Γ m=some s→(zy rs m).isSome=true) (h:chk Γ rs (some (0,[]))=some none):z4i rs (stOf Γ rs (some (0,[]))):=by
 have hlab:∀m s,Γ m=some s→∃q:Nat,labV rs m=.int (q:Int)∧q < rs.length∧(stOf Γ rs (some (0,[])))[q]?=some (some s):=by
  intro m s e
  obtain ⟨q,hq⟩:=Option.isSome_iff_exists.mp (hΓ m s e)
  obtain ⟨r,hr,ho,ha⟩:=z4W hq
  refine ⟨q,by unfold labV;rw [hq],(kd.mp hr).1,?_⟩
  rw [ZP rs _ q r hr ho,ha,e]
 have F:=Z4 rs (some (0,[])) h
 have lead:∀(p:Nat) r s,rs[p]?=some r→(stOf Γ rs (some (0,[])))[p]?=some (some s)→∀m∈qk rs p r s.1 s.2.getLast?,∃j:Nat,m.1=.int (j:Int)∧j < rs.length∧(stOf Γ rs (some (0,[])))[j]?=some (some (m.2.1,ql r s.1 s.2 m.2.2)):=by
  intro p r s hr hs m hm
  have f:=F p r s hr hs
  have hok:=f.ok
  unfold j7 at hok
  simp only [kW,Bool.not_eq_true',kX,decide_eq_false_iff_not] at hok
  obtain ⟨⟨⟨k1,k2⟩,k3⟩,k4⟩:=hok
  unfold qk at hm
  rw [ke k1,kq ka,k2,kq ka] at hm
  rcases kL.mp hm with hm | hm
  ·rcases kL.mp hm with hm | hm
   ·unfold mv1 at hm
    by_cases hn:inT r.op zO=true
    ·rw [kr hn] at hm;cases hm
    ·rw [kq hn] at hm
     rw [kj.mp hm]
     have e:=f.nx (zM r s.1,ql r s.1 s.2 (tabI zT r.op)) (by unfold Zz;rw [kq hn])
     refine ⟨p+1,by push_cast;rfl,?_,e⟩
     have:=(kd.mp e).1
     rw [Z1] at this
     exact this
   ·unfold mv2 at hm
    by_cases hj:inT r.op jumping=true
    ·rw [kr hj] at hm
     rw [kj.mp hm]
     obtain ⟨q,h1,h2,h3⟩:=hlab _ _ (f.tg (argM r.arg,((if inT r.op leaving=true then s.1 else zM r s.1),s.2)) (by
      unfold tgts
      rw [kr hj]
      exact kH _ (kj.mpr rfl)))
     refine ⟨q,h1,h2,?_⟩
     have e0:ql r s.1 s.2 0=s.2:=by unfold ql;rw [kq (by decide),kq (by decide)]
     show _=some (some ((if inT r.op leaving=true then s.1 else zM r s.1),ql r s.1 s.2 0))
     rw [e0]
     exact h3
    ·rw [kq hj] at hm;cases hm
  ·unfold mv3 at hm
   by_cases hf:inT r.op faulting=true
   ·rw [kr hf] at hm
    cases hg:s.2.getLast? with
    | none=>rw [hg] at hm;cases hm
    | some g=>
     rw [hg] at hm
     rw [kj.mp hm]
     obtain ⟨q,h1,h2,h3⟩:=hlab _ _ (f.tg (g.1,(g.2+1,s.2.dropLast)) (by
      unfold tgts
      rw [kr hf,hg]
      exact kG _ (kj.mpr rfl)))
     refine ⟨q,h1,h2,?_⟩
     have e0:ql r s.1 s.2 (-1)=s.2.dropLast:=by unfold ql;rw [kq (by decide),kr rfl]
     show _=some (some (g.2+1,ql r s.1 s.2 (-1)))
     rw [e0]
     exact h3
   ·rw [kq hf] at hm;cases hm
 refine ⟨Z1 _ _ _,QX h rfl,fun p r s hr hs=>?_,fun p r s hr hs x s' hx=>?_⟩
 ·have hok:=(F p r s hr hs).ok
  unfold j7 at hok
  simp only [kW,Bool.not_eq_true',kX,decide_eq_false_iff_not] at hok
  obtain ⟨⟨⟨k1,k2⟩,k3⟩,k4⟩:=hok
  refine ⟨?_,k4⟩
  have hend:inV (.int (rs.length:Nat)) ((qk rs p r s.1 s.2.getLast?).map (·.1))=false:=by
   unfold inV
   rw [List.any_eq_false]
   intro y hy
   obtain ⟨m,hm,rfl⟩:=kY.mp hy
   obtain ⟨j,h1,h2,_⟩:=lead p r s hr hs m hm
   rw [h1]
   intro z
   have z:decide ((j:Int)=(rs.length:Int))=true:=by
    first
     | exact z
     | simpa [eqV] using z
   have:=kw z
   lia
  unfold Z7 Z8
  rw [ke k1,k2,k3,hend]
  rfl
 ·unfold Zn at hx
  obtain ⟨m,hm,e⟩:=kY.mp hx
  cases e
  obtain ⟨j,h1,_,h3⟩:=lead p r s hr hs m hm
  exact ⟨j,h1,h3⟩
def z32 (H H':L2.Hp) (t:PySem.Addr):Prop:=∀b o,H b=some o→b≠t→H' b=some o
open PySem PySem.Spec PyProof.Rows L2
def Scr (K:ko) (H:Hp) (a:Addr) (xs:List V):Prop:=
 (∃o,H a=some (.frz o (.lst xs)))∨∃(o:Obj) (its:Array Value) (n:Nat),K.lookup a=some o∧o.cls=.type "list"∧o.dict=none∧o.data=.seq its n∧its.size≤sizeLine∧Vals xs its.toList
theorem Scr.sq {K:ko} {H:Hp} {a:Addr} {xs:List V} (h:Scr K H a xs):SqL K H a xs:=by
 rcases h with ⟨o,h⟩ | h
 ·exact .inl (.inr ⟨o,h⟩)
 ·exact .inr h
theorem Scr.keep {K:ko} {H H':Hp} {a:Addr} {xs:List V} (h:Scr K H a xs) (k:∀o u,H a=some (.frz o u)→H' a=some (.frz o u)):Scr K H' a xs:=by
 rcases h with ⟨o,h⟩ | h
 ·exact .inl ⟨o,k _ _ h⟩
 ·exact .inr h
theorem Scr.keep1 {K:ko} {H H':Hp} {a t:Addr} {xs ys:List V} (h:Scr K H a xs) (k:z32 H H' t) (ht:H t=some (.lst ys)):Scr K H' a xs:=h.keep fun o u e=>k _ _ e (jW e ht nofun)
noncomputable def qT (c:Nat) (cells:List Int):List V:=.int (c:Int) :: cells.map V.int
section
def z0L (K:ko):Sp:=fun vs H Q _=>∃(a t:Addr) (ns:List Int) (c:Nat) (cells:List Int) (many:Int),vs=[.ref a,.ref t,.int many]∧Scr K H a (ns.map V.int)∧ns.length≤1000∧cells.length=ns.length∧H t=some (.lst (qT c cells))∧c≤100000∧1≤many∧many≤1000∧
 ∀(i:Int) (cells':List Int) H',0≤i→i < many→cells'.length=ns.length→H' t=some (.lst (qT (c+1) cells'))→z32 H H' t→Q (.int i) H'
theorem sc68:zh ["_law_script","_law_town_here","_law_many","_law_at","_law_left","_law_number"] ["_law_script","_law_town_here","_law_many"] (zd (top 68)):=fsM
theorem z2G {cells:List Int} {i:Int} (h0:0≤i) (h1:i < (cells.length:Int)) (c:Nat):∃z,atI (qT c cells) (1+i)=some (.int z):=by
 obtain ⟨j,rfl⟩:=kQ h0
 have hj:j < cells.length:=by lia
 have e:(1:Int)+(j:Int)=((j+1:Nat):Int):=by lia
 refine ⟨cells[j],?_⟩
 rw [e]
 refine zj ?_
 unfold qT
 rw [List.getElem?_cons_succ,List.getElem?_map,kE hj]
 rfl
theorem z0g {ns:List Int} {i:Int} (h0:0≤i) (h1:i < (ns.length:Int)):∃z,atI (ns.map V.int) i=some (.int z):=by
 obtain ⟨j,rfl⟩:=kQ h0
 have hj:j < ns.length:=by lia
 refine ⟨ns[j],zj ?_⟩
 rw [List.getElem?_map,kE hj]
 rfl
theorem z2d {c:Nat} {cells:List Int} {i:Int} (h0:0≤i) (h1:i < (cells.length:Int)) (z:Int):∃j cells',ixN (qT c cells).length (1+i)=some j∧(qT c cells).set j (.int z)=qT c cells'∧cells'.length=cells.length:=by
 obtain ⟨j,rfl⟩:=kQ h0
 refine ⟨j+1,cells.set j z,?_,?_,by simp⟩
 ·unfold ixN qT
  rw [kr (by lia),kr (by simp;lia)]
  congr 1
  lia
 ·unfold qT
  rw [List.set_cons_succ,List.map_set]
theorem ix0 {c:Nat} {cells:List Int}:ixN (qT c cells).length 0=some 0:=by
 unfold ixN qT
 rw [kr (by decide),kr (by simp <;> lia)]
 rfl
theorem z4e (D:zo K mg "_law_draw" (top 68)) (G:Glo mg):FN P w K mg base 1 "_law_draw" ["_law_script","_law_town_here","_law_many"] (z0L K):=by
 refine FN.o D sc68 fun f cdv A outer s H vs Q E hr h=>?_
 obtain ⟨a,t,ns,c,cells,many,rfl,hS,hns,hcl,hT,hc,hm1,hm2,q⟩:=h
 have hu:A.units+3 < cLine:=by have:=hr.units0;exact this
 refine ⟨_,zb (j3 (zI qL (zC zE (pv 1) zf (fun _ _=>rfl)) zf) (jM (pv 1) zf qD))
  (zb (qc (zq (z3n (hr.units0)) (pv 0) (qr z7) (zu _))
   (ze (zi (zI Zk (zI Zl (zI JD (zI JD (zC zE (pv 1) zf (fun _ _=>rfl)) (zC zE (pv 1) zf (fun _ _=>rfl))) zf) zf) (pv 2)))) zA)
  (zb (zw (i:=3) sc68.nd rfl (Or.inl rfl) (zI Zk (zC zE (pv 1) zf (fun _ _=>rfl)) (zl zk rfl G.len zF (z0 (pv 0) z7))))
  (zb (zw (i:=4) sc68.nd rfl (Or.inl rfl) (zC zE (pv 1) (zI qL zf (pv 3)) (fun _ _=>rfl)))
  (zb (qc (PW.pt (Jy (zq z5E (zC zE (pv 0) (pv 3) (fun _ _=>rfl)) (zI z3m zf zf) (zu _)) (ZT (zq z5D (pv 4) zf (zu _)))))
   (zb (j3 (zI Zl (pv 4) (pv 2)) (jM (pv 1) (zI qL zf (pv 3)) qD)) (ze (zi (zI Zk (pv 4) (pv 2))))) zA)
  (zb (zw (i:=5) sc68.nd rfl (Or.inl rfl) (zI Zk (zI qL (zC zE (pv 0) (pv 3) (fun _ _=>rfl)) (zI JD zf (zC zE (pv 1) zf (fun _ _=>rfl)))) zf))
  (zb (zw (i:=5) sc68.nd rfl (Or.inl rfl) (zI Zk (zI z3m (pv 5) zf) zf))
  (ze (zi (zI Zk (zI Zl (zI Zk (zI qL (zI JD (zI Zl (pv 5) zf) zf) (pv 5)) zf) zf) (pv 2)))))))))),?_⟩
 have hmod:∀x:Int,0≤x % many∧x % many < many:=fun x=>⟨Int.emod_nonneg _ (by lia),Int.emod_lt_of_pos _ (by lia)⟩
 have cdm:CDiv 0 many:=⟨by lia,by lia⟩
 refine ⟨_,rfl,t,_,_,_,rfl,rfl,SqL.of hT,zj (j:=0) rfl,_,_,rfl,rfl,?_⟩
 refine ⟨_,rfl,t,_,_,0,rfl,rfl,hT,ix0,?_⟩
 have e1:(qT c cells).set 0 (V.int ((c:Int)+1))=qT (c+1) cells:=by
  unfold qT
  rw [List.set_cons_zero]
  rfl
 rw [e1]
 generalize hH1:upd H t (.lst (qT (c+1) cells))=H1
 have hT1:H1 t=some (.lst (qT (c+1) cells)):=by rw [←hH1];exact z6
 have k1:z32 H H1 t:=fun b o e hb=>by rw [←hH1,zc hb];exact e
 have hS1:=hS.keep1 k1 hT
 refine ⟨_,rfl,by show 0≤sizeLine;decide,fun p hp=>?_⟩
 have s2:Same H1 (upd H1 p (.lst [])):=zg hp _
 have hT2:=s2 _ _ hT1
 have hS2:Scr K (upd H1 p (.lst [])) a (ns.map V.int):=hS1.keep fun o u e=>s2 _ _ e
 have k2:z32 H (upd H1 p (.lst [])) t:=fun b o e hb=>s2 _ _ (k1 b o e hb)
 generalize hH2:upd H1 p (.lst [])=H2 at *
 have hp2:H2 p=some (.lst []):=by rw [←hH2];exact z6
 refine ⟨a,p,_,rfl,rfl,hS2.sq,SqL.of hp2,_,rfl,?_⟩
 refine ite2 (fun ce=>?_) (fun ce=>?_)
 ·refine ⟨_,rfl,t,_,_,_,rfl,rfl,SqL.of hT2,zj (j:=0) rfl,_,rfl,t,_,_,_,rfl,rfl,SqL.of hT2,zj (j:=0) rfl,_,_,rfl,rfl,.inl ⟨by lia,by lia⟩,_,_,rfl,rfl,.inr ⟨by decide,by decide⟩,_,_,rfl,rfl,⟨by decide,by decide⟩,_,rfl,_,_,rfl,rfl,by lia,?_⟩
  exact q _ cells H2 (hmod _).1 (hmod _).2 hcl hT2 k2
 ·have hne:ns≠[]:=fun z=>ce (by rw [z];rfl)
  have hpos:0 < ns.length:=List.length_pos_iff.mpr hne
  refine ⟨_,rfl,t,_,_,_,rfl,rfl,SqL.of hT2,zj (j:=0) rfl,_,rfl,a,_,rfl,.inl hS2.sq,_,_,rfl,rfl,by rw [kg];lia,?_⟩
  rw [kg]
  have a0:0≤((c+1:Nat):Int) % (ns.length:Int):=Int.emod_nonneg _ (by lia)
  have a1:((c+1:Nat):Int) % (ns.length:Int) < (ns.length:Int):=Int.emod_lt_of_pos _ (by lia)
  obtain ⟨z,hz⟩:=z2G (cells:=cells) a0 (by rw [hcl];exact a1) (c+1)
  obtain ⟨y,hy⟩:=z0g (ns:=ns) a0 a1
  refine ⟨_,rfl,_,rfl,_,_,rfl,rfl,t,_,_,_,rfl,rfl,SqL.of hT2,hz,?_⟩
  refine ⟨_,rfl,_,rfl,a,_,_,_,rfl,rfl,hS2.sq,hy,_,_,rfl,rfl,⟨by decide,by decide,by decide⟩,_,_,rfl,rfl,_,rfl,?_⟩
  have rest:tSeq (tAsg (tOp (rI (fun _ j=>0 < j) fun i j=>.int (i % j)) (tOp (rI0 fun i j=>.int (i+j)) (tOp (rIxL K) (tVar 0) (tVar 3)) (tOp (rI CMul fun i j=>.int (i * j)) (tC (.int 104729)) (tOp (rIxL K) (tVar 1) (tC (.int 0))))) (tC (.int 4294967291))) (Qa 5))
    (tSeq (tAsg (tOp (rI (fun _ j=>0 < j) fun i j=>.int (i % j)) (tOp (rI CPow fun i j=>.int (i ^ j.toNat)) (tVar 5) (tC (.int 5))) (tC (.int 4294967279))) (Qa 5))
    (tRet (tOp (rI (fun _ j=>0 < j) fun i j=>.int (i % j)) (tOp (rI CDiv fun i j=>.int (i / j)) (tOp (rI (fun _ j=>0 < j) fun i j=>.int (i % j)) (tOp (rI0 fun i j=>.int (i+j)) (tOp (rI CMul fun i j=>.int (i * j)) (tOp (rI CDiv fun i j=>.int (i / j)) (tVar 5) (tC (.int 64))) (tC (.int 69621))) (tVar 5)) (tC (.int 4294967231))) (tC (.int 8))) (tVar 2))))
    { nx:=fun _ H'=>Q .non H',rt:=Q } [some (.ref a),some (.ref t),some (.int many),some (.int (((c+1:Nat):Int) % (ns.length:Int))),some (.int z),none] H2:=by
   refine ⟨_,rfl,_,rfl,a,_,_,_,rfl,rfl,hS2.sq,hy,_,rfl,t,_,_,_,rfl,rfl,SqL.of hT2,zj (j:=0) rfl,_,_,rfl,rfl,.inl ⟨by decide,by decide⟩,_,_,rfl,rfl,_,_,rfl,rfl,(by show (0:Int) < 4294967291;decide),?_⟩
   have b0:0≤(y+104729 * ((c+1:Nat):Int)) % 4294967291:=Int.emod_nonneg _ (by decide)
   have b1:(y+104729 * ((c+1:Nat):Int)) % 4294967291 < 4294967291:=Int.emod_lt_of_pos _ (by decide)
   refine ⟨_,rfl,_,_,rfl,rfl,⟨by decide,by decide,?_⟩,_,_,rfl,rfl,(by show (0:Int) < 4294967279;decide),?_⟩
   ·show ((y+104729 * ((c+1:Nat):Int)) % 4294967291).natAbs < 2 ^ 64
    lia
   refine ⟨_,rfl,_,_,rfl,rfl,⟨by decide,by decide⟩,_,_,rfl,rfl,.inr ⟨by decide,by decide⟩,_,rfl,_,_,rfl,rfl,_,_,rfl,rfl,(by show (0:Int) < 4294967231;decide),_,_,rfl,rfl,⟨by decide,by decide⟩,_,rfl,_,_,rfl,rfl,by lia,?_⟩
   exact q _ cells H2 (hmod _).1 (hmod _).2 hcl hT2 k2
  refine ite2 (fun c1=>?_) (fun c1=>?_)
  ·refine ⟨_,rfl,_,_,rfl,rfl,_,rfl,?_⟩
   refine ite2 (fun c2=>?_) (fun c2=>rest)
   obtain ⟨j,cells',hj,hset,hl'⟩:=z2d (c:=c+1) (cells:=cells) a0 (by rw [hcl];exact a1) (z / many)
   refine ⟨_,rfl,_,rfl,_,_,rfl,rfl,⟨by lia,by lia⟩,?_⟩
   refine ⟨_,rfl,_,rfl,_,_,rfl,rfl,t,_,_,j,rfl,rfl,hT2,hj,?_⟩
   rw [hset]
   refine ⟨_,rfl,_,rfl,_,_,rfl,rfl,by lia,?_⟩
   exact q _ cells' _ (hmod _).1 (hmod _).2 (hl'.trans hcl) z6 fun b o e hb=>by rw [zc hb];exact k2 b o e hb
  ·exact iteF rest
end
def FNd (P:Program) (w:World) (K:ko) (mg:Str→Option Value) (base:Heap) (k:Nat) (name:Str) (ps:List Str) (dvs:List V) (sp:Sp):Prop:=
 ∃f fd ds,mg name=some (.ref f)∧PySem.W.keepIn K (.ref f)=true∧Vals dvs ds∧ZB K fd ps ds∧FnOk P w K mg base CX0 k f fd ps sp
def z25 (K:ko) (mg:Str→Option Value) (name:Str) (st:Stmt):Prop:=
 ∃(f T:Addr) (oc kV doc pm cdv ct:Value) (od an:Option Addr) (osl:Array (Option Value)) (to:Obj) (n:Nat),mg name=some (.ref f)∧PySem.W.keepIn K (.ref f)=true∧
  K.lookup f=some ⟨oc,od,.func (PySem.W.fnOf name name (zX st) (zH st) (zd st) (.ref T) kV doc pm an cdv ct),osl⟩∧PySem.W.codeIn K cdv name=true∧K.lookup T=some to∧to.data=.seq #[Value.none] n
section
variable {X:Cx} {k:Nat} {name:Str} {ps:List Str} {dvs:List V} {sp:Sp} {p pos:Pos} {e:Expr} {es:List Expr} {t:TA}
theorem z16 (F:FNd X.prog X.w X.K X.mg X.base k name ps dvs sp) (hr:Room k X.A) (hg:Gl X name) (ha:PA X (e :: es) t) (hdb:autoParam ((name == ("__debug__":Str))=false) aR._auto_2)
  (he:autoParam (starEach (e :: es) X.env=(false,eval e X.env) :: starEach es X.env) aR._auto_1) (hpl:autoParam ((backTo pos (starEach es X.env)).any (·.1)=false) aR._auto_1):
  PE X (.Call (.Name name p) (e :: es) [] pos) (z2b sp dvs E0 t):=by
 obtain ⟨f,fd,ds,a,b,v,c,d⟩:=F
 exact z18 d hr hg a b c v z3Q ha hdb he hpl
end
section
def z00:Sp:=fun vs H Q _=>∃(r:Addr) (op:Str) (x:V) (ys:List V),vs=[.ref r,.str op,x]∧H r=some (.lst ys)∧ys.length≤100000∧
 ∀a,H a=none→Q .non (upd (upd H a (.tup [.str op,x,.int (10+(ys.length:Int) / 2)])) r (.lst (ys++[.ref a])))
theorem sc69:zh ["_law_rows","_law_op","_law_arg"] ["_law_rows","_law_op","_law_arg"] (zd (top 69)):=fsM
theorem z2u {n:Nat} (h:n≤100000):n < sizeLine:=Nat.lt_of_le_of_lt h (by decide)
theorem z58 (D:z25 K mg "_law_put" (top 69)) (G:Glo mg):FNd P w K mg base 1 "_law_put" ["_law_rows","_law_op","_law_arg"] [] z00∧FNd P w K mg base 1 "_law_put" ["_law_rows","_law_op","_law_arg"] [.non] z00:=by
 obtain ⟨f,T,oc,kV,doc,pm,cdv,ct,od,an,osl,to,n,m,kp,lk,hcd,lT,hT⟩:=D
 have ok:FnOk P w K mg base CX0 1 f (PySem.W.fnOf "_law_put" "_law_put" (zX (top 69)) (zH (top 69)) (zd (top 69)) (.ref T) kV doc pm an cdv ct) ["_law_rows","_law_op","_law_arg"] z00:=by
  refine z5a lk hcd sc69 (fun vs H Q E h=>by obtain ⟨r,op,x,ys,rfl,_⟩:=h;rfl) (fun A outer s H vs Q E hr h=>?_)
  obtain ⟨r,op,x,ys,rfl,hr1,hl,q⟩:=h
  refine ⟨_,PSs.nox (ze (zQ (Qr (pv 0) (z0 (qz (z0 (pv 1) (z0 (pv 2) (z0 (zI qL zf (zI Zl (zl zk rfl G.len zF (z0 (pv 0) z7)) zf)) z7)))) z7)))),?_⟩
  refine ⟨_,rfl,.inl ⟨rfl,_,SqL.of hr1⟩,_,rfl,_,rfl,_,rfl,r,_,rfl,.inl (SqL.of hr1),_,_,rfl,rfl,⟨by decide,by decide⟩,_,_,rfl,rfl,by show 3≤sizeLine;decide,fun a ha=>?_⟩
  have nra:r≠a:=z8 hr1 ha
  exact ⟨r,ys,.ref a,rfl,rfl,by rw [zc nra];exact hr1,z2u hl,q a ha⟩
 have b3:ZB K (PySem.W.fnOf "_law_put" "_law_put" (zX (top 69)) (zH (top 69)) (zd (top 69)) (.ref T) kV doc pm an cdv ct) ["_law_rows","_law_op","_law_arg"] []:=fun s us X hl=>by
  match us,hl with
  | [u1,u2,u3],_=>exact BindsTo.of_defaults (T:=T) (o:=to) (items:=#[Value.none]) rfl (X _ _ lT) hT rfl rfl
 have b2:ZB K (PySem.W.fnOf "_law_put" "_law_put" (zX (top 69)) (zH (top 69)) (zd (top 69)) (.ref T) kV doc pm an cdv ct) ["_law_rows","_law_op","_law_arg"] [.none]:=fun s us X hl=>by
  have hl':us.length=2:=by simpa using hl
  match us,hl' with
  | [u1,u2],_=>exact BindsTo.of_defaults (T:=T) (o:=to) (items:=#[Value.none]) rfl (X _ _ lT) hT rfl rfl
 exact ⟨⟨f,_,[],m,kp,.nil,b3,ok⟩,⟨f,_,[.none],m,kp,.cons rfl .nil,b2,ok⟩⟩
end
set_option maxHeartbeats 8000000
section
def z3a (K:ko):Sp:=fun vs H Q _=>∃(a:Addr) (ns:List Int),vs=[.ref a]∧Scr K H a (ns.map V.int)∧ns.length≤1000∧∀t H',Same H H'→H t=none→H' t=some (.lst (qT 0 ns))→Q (.ref t) H'
theorem sc67:zh ["_law_script"] ["_law_script"] (zd (top 67)):=fsM
theorem z43 (D:zo K mg "_law_town" (top 67)) (G:Glo mg):FN P w K mg base 1 "_law_town" ["_law_script"] (z3a K):=by
 refine FN.o D sc67 fun f cdv A outer s H vs Q E hr h=>?_
 obtain ⟨a,ns,rfl,hS,hn,q⟩:=h
 refine ⟨_,ze (zi (zI z1c (qr (z0 zf z7)) (Qq jT rfl G.list jA (z0 (pv 0) z7)))),?_⟩
 refine ⟨by show 1≤sizeLine;decide,fun p hp=>?_⟩
 have sp:=zg hp (.lst [.int 0])
 refine ⟨_,rfl,a,ns.map V.int,rfl,.inl (hS.keep fun o u e=>sp _ _ e).sq,fun l hl=>?_⟩
 have sl:=zg hl (.lst (ns.map V.int))
 have npl:p≠l:=z8 (H:=upd H p (.lst [.int 0])) z6 hl
 refine ⟨p,l,[.int 0],ns.map V.int,rfl,rfl,sl _ _ z6,z6,?_,fun t ht=>?_⟩
 ·rw [kg,sizeLine_eq]
  show 1+ns.length≤_
  lia
 ·have st:=zg ht (.lst ([.int 0]++ns.map V.int))
  refine q t _ ((sp.trans sl).trans st) ?_ z6
  cases e:H t with
  | none=>rfl
  | some o=>rw [(sp.trans sl) _ _ e] at ht;cases ht
noncomputable def big (i:Int):Bool:=decide (1000000000000000000 < i.natAbs)
theorem qN {i:Int} (h:big i=false):qC (.int i):=by
 have h1:¬1000000000000000000 < i.natAbs:=of_decide_eq_false h
 refine ⟨rfl,?_,?_⟩
 ·show (PyData.int i).showable=true
  simp only [PyData.showable]
  have:i.natAbs.log2 < 1920:=by
   by_cases z:i.natAbs=0
   ·rw [z];decide
   ·have h2:=(Nat.log2_lt z (k:=64)).mpr (by lia)
    lia
  exact kf this
 ·have e:=int_text_length_le10 (a:=i) (k:=19) (by decide) (by lia)
  show ((PyData.int i).shown).length≤60
  simp only [PyData.shown]
  rw [PySem.ofString_length]
  lia
def QY (K:ko):Sp:=fun vs H Q _=>∃a d,vs=[.ref a]∧RdV K H (.ref a) d∧z3z d∧Q (.str d.shown) H
theorem sc70:zh ["_law_thing"] ["_law_thing"] (zd (top 70)):=fsM
theorem z1B (D:zo K mg "_law_shown" (top 70)):FN P w K mg base 2 "_law_shown" ["_law_thing"] (QY K):=by
 refine FN.o D sc70 fun f cdv A outer s H vs Q E hr h=>?_
 obtain ⟨a,d,rfl,hR,hk,q⟩:=h
 exact ⟨_,ze (zi (z2k (z2j hr (pv 0)))),_,rfl,a,d,rfl,hR,hk,q⟩
end
noncomputable def ex (a b i:Nat):Nat:=if i=a then b else if i=b then a else i
theorem ex_l (a b:Nat):ex a b a=b:=by simp [ex]
theorem ex_r (a b:Nat):ex a b b=a:=by unfold ex;split <;> simp_all
theorem ex_o {a b i:Nat} (h1:i≠a) (h2:i≠b):ex a b i=i:=by unfold ex;rw [kq h1,kq h2]
theorem z4f (a b i:Nat):ex a b i=ex b a i:=by
 unfold ex
 split
 ·split
  ·rename_i h1 h2;rw [←h1,←h2]
  ·rfl
 ·rfl
theorem z0n (a b i:Nat):ex a b (ex a b i)=i:=by
 by_cases h1:i=a
 ·subst h1;rw [ex_l,ex_r]
 ·by_cases h2:i=b
  ·subst h2;rw [ex_r,ex_l]
  ·rw [ex_o h1 h2,ex_o h1 h2]
theorem z0m {a b i n:Nat} (ha:a < n) (hb:b < n) (hi:i < n):ex a b i < n:=by
 unfold ex
 split
 ·exact hb
 ·split
  ·exact ha
  ·exact hi
structure Bij (n:Nat) (p r:Nat→Nat):Prop where
 lt:∀i,i < n→p i < n
 lt':∀i,i < n→r i < n
 rp:∀i,i < n→r (p i)=i
 pr:∀i,i < n→p (r i)=i
theorem Bij.symm {n:Nat} {p r:Nat→Nat} (h:Bij n p r):Bij n r p:=⟨h.lt',h.lt,h.pr,h.rp⟩
theorem Bij.inj {n:Nat} {p r:Nat→Nat} (h:Bij n p r) {i j:Nat} (hi:i < n) (hj:j < n) (e:p i=p j):i=j:=by
 rw [←h.rp i hi,←h.rp j hj,e]
theorem Bij.ex {n:Nat} {p r:Nat→Nat} (h:Bij n p r) {a b:Nat} (ha:a < n) (hb:b < n):Bij n (fun i=>p (ex a b i)) (fun i=>My.ex a b (r i)):=by
 refine ⟨fun i hi=>h.lt _ (z0m ha hb hi),fun i hi=>z0m ha hb (h.lt' i hi),fun i hi=>?_,fun i hi=>?_⟩
 ·show My.ex a b (r (p (My.ex a b i)))=i
  rw [h.rp _ (z0m ha hb hi),z0n]
 ·show p (My.ex a b (My.ex a b (r i)))=i
  rw [z0n,h.pr i hi]
noncomputable def ctr (n:Nat) (p:Nat→Nat) (i:Nat):Nat:=if p i=n then p n else p i
theorem jR {n:Nat} {p:Nat→Nat} {i:Nat} (h:p i=n):ctr n p i=p n:=by unfold ctr;rw [kr h]
theorem qm {n:Nat} {p:Nat→Nat} {i:Nat} (h:p i≠n):ctr n p i=p i:=by unfold ctr;rw [kq h]
noncomputable def cyc:Nat→(Nat→Nat)→Nat
 | 0,_=>0
 | n+1,p=>cyc n (ctr n p)+if p n=n then 1 else 0
theorem qB:∀(n:Nat) (p q:Nat→Nat),(∀i,i < n→p i=q i)→cyc n p=cyc n q
 | 0,_,_,_=>rfl
 | n+1,p,q,h=>by
  unfold cyc
  rw [h n (Nat.lt_succ_self n),qB n (ctr n p) (ctr n q) fun i hi=>by unfold ctr;rw [h i (by lia),h n (by lia)]]
theorem Jm {n:Nat} {p r:Nat→Nat} (h:Bij (n+1) p r):Bij n (ctr n p) (ctr n r):=by
 have key:∀{p r:Nat→Nat},Bij (n+1) p r→(∀i,i < n→ctr n p i < n)∧∀i,i < n→ctr n r (ctr n p i)=i:=by
  intro p r h
  have lt:∀i,i < n→ctr n p i < n:=fun i hi=>by
   by_cases e:p i=n
   ·rw [jR e]
    have h1:=h.lt n (by lia)
    have h2:p n≠n:=fun z=>by
     have:=h.inj (i:=i) (j:=n) (by lia) (by lia) (by rw [e,z])
     lia
    lia
   ·rw [qm e]
    have:=h.lt i (by lia)
    lia
  refine ⟨lt,fun i hi=>?_⟩
  by_cases e:p i=n
  ·rw [jR e,jR (h.rp n (by lia)),←e,h.rp i (by lia)]
  ·rw [qm e]
   have:=h.rp i (by lia)
   rw [qm (by rw [this];lia),this]
 exact ⟨(key h).1,(key h.symm).1,(key h).2,(key h.symm).2⟩
theorem z2T {n a b:Nat} (ha:a < n) (hb:b < n) (p:Nat→Nat) (i:Nat):ctr n (fun i=>p (ex a b i)) i=ctr n p (ex a b i):=by
 show (if p (ex a b i)=n then p (ex a b n) else p (ex a b i))=_
 rw [ex_o (show n≠a by lia) (show n≠b by lia)]
 rfl
theorem z2R {n a:Nat} {p r:Nat→Nat} (h:Bij (n+1) p r) (ha:a < n):
  (p n=n→cyc (n+1) (fun i=>p (ex a n i))+1=cyc (n+1) p)∧(p a=n→cyc (n+1) (fun i=>p (ex a n i))=cyc (n+1) p+1)∧
  (p n≠n→p a≠n→r n < n∧r n≠a∧cyc (n+1) (fun i=>p (ex a n i))=cyc n (fun i=>ctr n p (ex a (r n) i))∧cyc (n+1) p=cyc n (ctr n p)):=by
 have inj:∀{i j},i < n+1→j < n+1→p i=p j→i=j:=fun h1 h2 e=>h.inj h1 h2 e
 have hqn:p (ex a n n)=p a:=by rw [ex_r]
 have hqa:p (ex a n a)=p n:=by rw [ex_l]
 have hqo:∀i,i < n→i≠a→p (ex a n i)=p i:=fun i h1 h2=>by rw [ex_o h2 (by lia)]
 refine ⟨fun e=>?_,fun e=>?_,fun e1 e2=>?_⟩
 ·have pa:p a≠n:=fun z=>by have:=inj (i:=a) (j:=n) (by lia) (by lia) (by rw [z,e]);lia
  show cyc n (ctr n fun i=>p (ex a n i))+(if p (ex a n n)=n then 1 else 0)+1=cyc n (ctr n p)+if p n=n then 1 else 0
  rw [hqn,kq pa,kr e]
  congr 1
  refine qB n _ _ fun i hi=>?_
  by_cases z:i=a
  ·subst z
   rw [qm pa]
   show ctr n (fun i=>p (ex _ n i)) _=_
   rw [jR (by show p (ex i n i)=n;rw [hqa,e])]
   show p (ex i n n)=p i
   rw [hqn]
  ·have pi:p i≠n:=fun y=>by have:=inj (i:=i) (j:=n) (by lia) (by lia) (by rw [y,e]);lia
   rw [qm pi,qm (by show p (ex a n i)≠n;rw [hqo i hi z];exact pi)]
   exact hqo i hi z
 ·have pn:p n≠n:=fun z=>by have:=inj (i:=a) (j:=n) (by lia) (by lia) (by rw [z,e]);lia
  show cyc n (ctr n fun i=>p (ex a n i))+(if p (ex a n n)=n then 1 else 0)=cyc n (ctr n p)+(if p n=n then 1 else 0)+1
  rw [hqn,kr e,kq pn,Nat.add_zero]
  congr 1
  refine qB n _ _ fun i hi=>?_
  by_cases z:i=a
  ·subst z
   rw [jR e,qm (by show p (ex i n i)≠n;rw [hqa];exact pn)]
   exact hqa
  ·have pi:p i≠n:=fun y=>by have:=inj (i:=i) (j:=a) (by lia) (by lia) (by rw [y,e]);lia
   rw [qm pi,qm (by show p (ex a n i)≠n;rw [hqo i hi z];exact pi)]
   exact hqo i hi z
 ·have rn:=h.pr n (by lia)
  have rl:=h.lt' n (by lia)
  have rne:r n≠n:=fun z=>e1 (by rw [z] at rn;exact rn)
  have rna:r n≠a:=fun z=>e2 (by rw [z] at rn;exact rn)
  refine ⟨by lia,rna,?_,?_⟩
  ·show cyc n (ctr n fun i=>p (ex a n i))+(if p (ex a n n)=n then 1 else 0)=_
   rw [hqn,kq e2,Nat.add_zero]
   refine qB n _ _ fun i hi=>?_
   show ctr n (fun i=>p (ex a n i)) i=ctr n p (ex a (r n) i)
   by_cases z:i=a
   ·subst z
    rw [ex_l,jR rn,qm (by show p (ex i n i)≠n;rw [hqa];exact e1)]
    exact hqa
   ·by_cases y:i=r n
    ·subst y
     rw [ex_r,qm e2,jR (by show p (ex a n (r n))=n;rw [hqo _ hi z];exact rn)]
     exact hqn
    ·have pi:p i≠n:=fun x=>by have:=inj (i:=i) (j:=r n) (by lia) (by lia) (by rw [x,rn]);lia
     rw [ex_o z y,qm pi,qm (by show p (ex a n i)≠n;rw [hqo i hi z];exact pi)]
     exact hqo i hi z
  ·show cyc n (ctr n p)+(if p n=n then 1 else 0)=_
   rw [kq e1,Nat.add_zero]
def Pm (a b:Nat):Prop:=a=b+1∨a+1=b
theorem QI:∀(n:Nat) (p r:Nat→Nat) (a b:Nat),Bij n p r→a < n→b < n→a≠b→
  Pm (cyc n fun i=>p (ex a b i)) (cyc n p)∧(p a=b→cyc n (fun i=>p (ex a b i))=cyc n p+1)∧(p b=a→cyc n (fun i=>p (ex a b i))=cyc n p+1)
 | 0,_,_,_,_,_,h,_,_=>absurd h (by lia)
 | n+1,p,r,a,b,h,ha,hb,hab=>by
  have last:∀c,c < n→Pm (cyc (n+1) fun i=>p (ex c n i)) (cyc (n+1) p)∧(p c=n→cyc (n+1) (fun i=>p (ex c n i))=cyc (n+1) p+1)∧(p n=c→cyc (n+1) (fun i=>p (ex c n i))=cyc (n+1) p+1):=fun c hc=>by
   obtain ⟨l1,l2,l3⟩:=z2R h hc
   by_cases e1:p n=n
   ·have pc:p c≠n:=fun z=>by have:=h.inj (i:=c) (j:=n) (by lia) (by lia) (by rw [z,e1]);lia
    exact ⟨.inr (l1 e1),fun z=>absurd z pc,fun z=>by lia⟩
   ·by_cases e2:p c=n
    ·exact ⟨.inl (l2 e2),fun _=>l2 e2,fun _=>l2 e2⟩
    ·obtain ⟨k1,k2,k3,k4⟩:=l3 e1 e2
     obtain ⟨i1,i2,i3⟩:=QI n (ctr n p) (ctr n r) c (r n) (Jm h) hc k1 (fun z=>k2 z.symm)
     rw [k3,k4]
     refine ⟨i1,fun z=>absurd z e2,fun z=>i3 ?_⟩
     rw [jR (h.pr n (by lia)),z]
  by_cases hb':b=n
  ·subst hb'
   exact last a (by lia)
  ·by_cases ha':a=n
   ·subst ha'
    obtain ⟨i1,i2,i3⟩:=last b (by lia)
    have e:(fun i=>p (ex a b i))=fun i=>p (ex b a i):=funext fun i=>by rw [z4f]
    rw [e]
    exact ⟨i1,i3,i2⟩
   ·obtain ⟨i1,i2,i3⟩:=QI n (ctr n p) (ctr n r) a b (Jm h) (by lia) (by lia) hab
    have e:ctr n (fun i=>p (ex a b i))=fun i=>ctr n p (ex a b i):=funext fun i=>z2T (by lia) (by lia) p i
    have c1:cyc (n+1) (fun i=>p (ex a b i))=cyc n (fun i=>ctr n p (ex a b i))+if p n=n then 1 else 0:=by
     show cyc n (ctr n fun i=>p (ex a b i))+(if p (ex a b n)=n then 1 else 0)=_
     rw [e,ex_o (by lia) (by lia)]
    have c2:cyc (n+1) p=cyc n (ctr n p)+if p n=n then 1 else 0:=rfl
    rw [c1,c2]
    refine ⟨?_,fun z=>?_,fun z=>?_⟩
    ·rcases i1 with i1 | i1
     ·exact .inl (by lia)
     ·exact .inr (by lia)
    ·have:=i2 (by rw [qm (by lia),z])
     lia
    ·have:=i3 (by rw [qm (by lia),z])
     lia
noncomputable def bt (c:Prop) [Decidable c]:Nat:=if c then 1 else 0
theorem bt_t {c:Prop} [Decidable c] (h:c):bt c=1:=kr h
theorem bt_f {c:Prop} [Decidable c] (h:¬c):bt c=0:=kq h
theorem z4h (c:Prop) [Decidable c]:bt c≤1:=by unfold bt;split <;> lia
noncomputable def fx:Nat→(Nat→Nat)→Nat
 | 0,_=>0
 | n+1,p=>fx n p+bt (n≠0∧p n=n)
noncomputable def cost (n:Nat) (p:Nat→Nat):Int:=(n:Int) - 2+cyc n p - 2 * fx n p
theorem Qb:∀(n:Nat) (p q:Nat→Nat),(∀i,0 < i→i < n→p i=q i)→fx n p=fx n q
 | 0,_,_,_=>rfl
 | n+1,p,q,h=>by
  unfold fx
  rw [Qb n p q fun i h0 hi=>h i h0 (by lia)]
  by_cases z:n=0
  ·subst z;rw [bt_f (by lia),bt_f (by lia)]
  ·rw [h n (by lia) (by lia)]
theorem z54:∀(n:Nat) (p:Nat→Nat),fx n p≤n
 | 0,_=>kc _
 | n+1,p=>by
  unfold fx
  have:=z54 n p
  have:=z4h (n≠0∧p n=n)
  lia
theorem jf {n:Nat} {p q:Nat→Nat} (h:∀i,i < n→p i=q i):cost n p=cost n q:=by
 unfold cost
 rw [qB n p q h,Qb n p q fun i _ hi=>h i hi]
theorem z0h:∀(n k:Nat) (p:Nat→Nat),0 < k→k < n→fx n (fun i=>p (ex 0 k i))+bt (p k=k)=fx n p+bt (p 0=k)
 | 0,_,_,_,h=>absurd h (by lia)
 | n+1,k,p,h0,hk=>by
  show fx n (fun i=>p (ex 0 k i))+bt (n≠0∧p (ex 0 k n)=n)+bt (p k=k)=fx n p+bt (n≠0∧p n=n)+bt (p 0=k)
  by_cases e:k=n
  ·subst e
   rw [Qb k (fun i=>p (ex 0 k i)) p fun i h1 h2=>by show p (ex 0 k i)=p i;rw [ex_o (by lia) (by lia)],ex_r]
   have e1:bt (k≠0∧p 0=k)=bt (p 0=k):=by
    by_cases z:p 0=k
    ·rw [bt_t z,bt_t ⟨by lia,z⟩]
    ·rw [bt_f z,bt_f fun y=>z y.2]
   have e2:bt (k≠0∧p k=k)=bt (p k=k):=by
    by_cases z:p k=k
    ·rw [bt_t z,bt_t ⟨by lia,z⟩]
    ·rw [bt_f z,bt_f fun y=>z y.2]
   lia
  ·have:=z0h n k p h0 (by lia)
   rw [ex_o (show n≠0 by lia) (show n≠k by lia)]
   lia
section
variable {n k:Nat} {p r:Nat→Nat}
theorem JQ (h:Bij n p r) (h0:0 < k) (hk:k < n) (e:p 0=k):cost n (fun i=>p (ex 0 k i))+1=cost n p:=by
 obtain ⟨_,c,_⟩:=QI n p r 0 k h (by lia) hk (by lia)
 have f:=z0h n k p h0 hk
 have pk:p k≠k:=fun z=>by have:=h.inj (i:=0) (j:=k) (by lia) hk (by rw [z,e]);lia
 rw [bt_f pk,bt_t e] at f
 unfold cost
 rw [c e]
 lia
theorem z2V (h:Bij n p r) (h0:0 < k) (hk:k < n) (e:p 0=0) (hw:p k≠k):cost n (fun i=>p (ex 0 k i))+1=cost n p:=by
 obtain ⟨_,_,c⟩:=QI n (fun i=>p (ex 0 k i)) (fun i=>ex 0 k (r i)) 0 k (h.ex (by lia) hk) (by lia) hk (by lia)
 have c:=c (by show p (ex 0 k k)=0;rw [ex_r,e])
 have e2:cyc n (fun i=>p (ex 0 k (ex 0 k i)))=cyc n p:=qB n _ _ fun i _=>by rw [z0n]
 have c:cyc n (fun i=>p (ex 0 k (ex 0 k i)))=cyc n (fun i=>p (ex 0 k i))+1:=c
 have f:=z0h n k p h0 hk
 rw [bt_f hw,bt_f (by lia)] at f
 unfold cost
 lia
theorem z2U (h:Bij n p r) (h0:0 < k) (hk:k < n):cost n p≤cost n (fun i=>p (ex 0 k i))+1:=by
 by_cases e:p 0=k
 ·have:=JQ h h0 hk e
  lia
 ·obtain ⟨c,_,_⟩:=QI n p r 0 k h (by lia) hk (by lia)
  have f:=z0h n k p h0 hk
  rw [bt_f e] at f
  unfold cost
  rcases c with c | c <;> lia
theorem z4g (h:Bij n p r) (h0:0 < k) (hk:k < n):cost n (fun i=>p (ex 0 k i))≤cost n p+1:=by
 have c:=z2U (h.ex (show 0 < n by lia) hk) h0 hk
 have e:cost n (fun i=>p (ex 0 k (ex 0 k i)))=cost n p:=jf fun i _=>by rw [z0n]
 have c:cost n (fun i=>p (ex 0 k i))≤cost n (fun i=>p (ex 0 k (ex 0 k i)))+1:=c
 lia
theorem JP:∀(n:Nat) (p r:Nat→Nat),Bij n p r→cyc n p=cyc n r
 | 0,_,_,_=>rfl
 | n+1,p,r,h=>by
  unfold cyc
  rw [JP n _ _ (Jm h)]
  have:p n=n↔r n=n:=⟨fun z=>by have:=h.rp n (by lia);rw [z] at this;exact this,fun z=>by have:=h.pr n (by lia);rw [z] at this;exact this⟩
  by_cases z:p n=n
  ·rw [kr z,kr (this.mp z)]
  ·rw [kq z,kq fun y=>z (this.mpr y)]
theorem z1y {m:Nat} {p r:Nat→Nat} (h:Bij m p r):∀(n:Nat),n≤m→fx n p=fx n r
 | 0,_=>rfl
 | n+1,hn=>by
  unfold fx
  rw [z1y h n (by lia)]
  have:p n=n↔r n=n:=⟨fun z=>by have:=h.rp n (by lia);rw [z] at this;exact this,fun z=>by have:=h.pr n (by lia);rw [z] at this;exact this⟩
  congr 1
  by_cases z:p n=n
  ·by_cases y:n=0
   ·rw [bt_f (by lia),bt_f (by lia)]
   ·rw [bt_t ⟨y,z⟩,bt_t ⟨y,this.mp z⟩]
  ·rw [bt_f fun y=>z y.2,bt_f fun y=>z (this.mpr y.2)]
theorem Zt (h:Bij n p r):cost n p=cost n r:=by
 unfold cost
 rw [JP n p r h,z1y h n (kc n)]
end
theorem z3x:∀(n:Nat) (p:Nat→Nat),(∀i,i < n→p i=i)→cyc n p=n
 | 0,_,_=>rfl
 | n+1,p,h=>by
  unfold cyc
  rw [kr (h n (by lia)),z3x n (ctr n p) fun i hi=>by rw [qm (by rw [h i (by lia)];lia),h i (by lia)]]
theorem z55:∀(n:Nat) (p:Nat→Nat),(∀i,i < n→p i=i)→fx n p=n - 1
 | 0,_,_=>rfl
 | n+1,p,h=>by
  unfold fx
  rw [z55 n p fun i hi=>h i (by lia)]
  by_cases z:n=0
  ·subst z;rw [bt_f (by lia)]
  ·rw [bt_t ⟨z,h n (by lia)⟩];lia
theorem z1S {n:Nat} {p:Nat→Nat} (hn:1≤n) (h:∀i,i < n→p i=i):cost n p=0:=by
 unfold cost
 rw [z3x n p h,z55 n p h]
 lia
theorem z1R {n:Nat} {p:Nat→Nat} (hn:1≤n) (hp:∀i,i < n→p i < n) (e:p n=n):cost (n+1) p=cost n p:=by
 unfold cost
 have c:cyc (n+1) p=cyc n p+1:=by
  show cyc n (ctr n p)+(if p n=n then 1 else 0)=_
  rw [kr e,qB n (ctr n p) p fun i hi=>qm (by have:=hp i hi;lia)]
 have f:fx (n+1) p=fx n p+1:=by
  show fx n p+bt (n≠0∧p n=n)=_
  rw [bt_t ⟨by lia,e⟩]
 rw [c,f]
 lia
theorem JR {n:Nat} {p:Nat→Nat} (hn:1≤n) (hp:∀i,i < n→p i < n):∀m,n≤m→(∀i,n≤i→i < m→p i=i)→cost m p=cost n p
 | 0,h,_=>by lia
 | m+1,h,e=>by
  by_cases z:n=m+1
  ·rw [z]
  ·rw [z1R (by lia) (fun i hi=>?_) (e m (by lia) (by lia)),JR hn hp m (by lia) fun i h1 h2=>e i h1 (by lia)]
   by_cases y:i < n
   ·have:=hp i y;lia
   ·rw [e i (by lia) (by lia)];exact hi
noncomputable def mu (n:Nat) (p:Nat→Nat):Nat:=2 * (n - fx n p)+bt (p 0=0)
theorem z4S {n k:Nat} {p r:Nat→Nat} (h:Bij n p r) (h0:0 < k) (hk:k < n) (e:p 0=k):mu n (fun i=>p (ex 0 k i)) < mu n p:=by
 have f:=z0h n k p h0 hk
 have pk:p k≠k:=fun z=>by have:=h.inj (i:=0) (j:=k) (by lia) hk (by rw [z,e]);lia
 rw [bt_f pk,bt_t e] at f
 have a:=z54 n (fun i=>p (ex 0 k i))
 have b:=z4h (p (ex 0 k 0)=0)
 show 2 * (n - fx n fun i=>p (ex 0 k i))+bt (p (ex 0 k 0)=0) < 2 * (n - fx n p)+bt (p 0=0)
 lia
theorem z4T {n k:Nat} {p r:Nat→Nat} (h:Bij n p r) (h0:0 < k) (hk:k < n) (e:p 0=0) (hw:p k≠k):mu n (fun i=>p (ex 0 k i)) < mu n p:=by
 have f:=z0h n k p h0 hk
 rw [bt_f hw,bt_f (by lia)] at f
 have q0:p (ex 0 k 0)≠0:=fun z=>by
  rw [ex_l] at z
  have:=h.inj (i:=0) (j:=k) (by lia) hk (by rw [z,e])
  lia
 show 2 * (n - fx n fun i=>p (ex 0 k i))+bt (p (ex 0 k 0)=0) < 2 * (n - fx n p)+bt (p 0=0)
 rw [bt_f q0,bt_t e]
 lia
noncomputable def lf (l:List Nat) (i:Nat):Nat:=l.getD i i
noncomputable def exch (l:List Nat) (k:Nat):List Nat:=(l.set 0 (l.getD k 0)).set k (l.getD 0 0)
theorem qO (l:List Nat) (k:Nat):(exch l k).length=l.length:=by simp [exch]
theorem jX {l:List Nat} {i:Nat} (h:i < l.length) (d:Nat):lf l i=l.getD i d:=by
 unfold lf
 rw [List.getD_eq_getElem?_getD,List.getD_eq_getElem?_getD,kE h]
 rfl
theorem z1l {l:List Nat} {i:Nat} (h:l.length≤i):lf l i=i:=by
 unfold lf
 rw [List.getD_eq_getElem?_getD,List.getElem?_eq_none h]
 rfl
theorem Q2 {l:List Nat} {k:Nat} (h0:0 < k) (hk:k < l.length) (i:Nat):lf (exch l k) i=lf l (ex 0 k i):=by
 by_cases hi:i < l.length
 ·have e0:0 < l.length:=by lia
  by_cases z:i=0
  ·subst z
   rw [ex_l]
   unfold lf exch
   simp only [List.getD_eq_getElem?_getD]
   rw [List.getElem?_set_ne (by lia),List.getElem?_set_self e0]
   rw [kE hk]
   rfl
  ·by_cases y:i=k
   ·subst y
    rw [ex_r]
    unfold lf exch
    simp only [List.getD_eq_getElem?_getD]
    rw [List.getElem?_set_self (by rw [List.length_set];exact hk),kE e0]
    rfl
   ·rw [ex_o z y]
    unfold lf exch
    simp only [List.getD_eq_getElem?_getD]
    rw [List.getElem?_set_ne (by lia),List.getElem?_set_ne (by lia)]
 ·rw [z1l (by rw [qO];lia),ex_o (by lia) (by lia),z1l (by lia)]
noncomputable def zn:List Nat→List Nat→List Nat
 | l,[]=>l
 | l,k :: ks=>zn (exch l (k - 1)) ks
noncomputable def sw:List Nat→Nat→Nat
 | [],i=>i
 | k :: ks,i=>ex 0 (k - 1) (sw ks i)
def Nums (n:Nat) (ks:List Nat):Prop:=∀k∈ks,2≤k∧k≤n
theorem Nums.tl {n k:Nat} {ks:List Nat} (h:Nums n (k :: ks)):Nums n ks:=fun x hx=>h x (kK _ hx)
theorem Nums.hd {n k:Nat} {ks:List Nat} (h:Nums n (k :: ks)):2≤k∧k≤n:=h k (kJ ..)
theorem zZ:∀(ks l:List Nat),(zn l ks).length=l.length
 | [],_=>rfl
 | k :: ks,l=>by show (zn (exch l (k - 1)) ks).length=_;rw [zZ,qO]
theorem jv:∀(ks l:List Nat),Nums l.length ks→∀i,lf (zn l ks) i=lf l (sw ks i)
 | [],_,_,_=>rfl
 | k :: ks,l,h,i=>by
  show lf (zn (exch l (k - 1)) ks) i=lf l (ex 0 (k - 1) (sw ks i))
  obtain ⟨h1,h2⟩:=h.hd
  rw [jv ks _ (by rw [qO];exact h.tl),Q2 (by lia) (by lia)]
theorem je (n i:Nat):lf (List.range n) i=i:=by
 by_cases h:i < n
 ·unfold lf
  rw [List.getD_eq_getElem?_getD,List.getElem?_range h]
  rfl
 ·exact z1l (by rw [List.length_range];lia)
theorem z4V {a b:List Nat} (hl:a.length=b.length) (h:∀i,i < a.length→lf a i=lf b i):a=b:=by
 refine List.ext_getElem hl fun i h1 h2=>?_
 have:=h i h1
 rw [jX h1 0,jX h2 0,List.getD_eq_getElem?_getD,List.getD_eq_getElem?_getD,kE h1,kE h2] at this
 exact this
theorem ZE:∀{n:Nat} (ks:List Nat),Nums n ks→Bij n (sw ks) (sw ks.reverse)
 | n,[],_=>⟨fun _ h=>h,fun _ h=>h,fun _ _=>rfl,fun _ _=>rfl⟩
 | n,k :: ks,h=>by
  obtain ⟨h1,h2⟩:=h.hd
  have ih:=ZE ks h.tl
  have app:∀(a b:List Nat) (i:Nat),sw (a++b) i=sw a (sw b i):=by
   intro a b i
   induction a with
   | nil=>rfl
   | cons x a iha=>show ex 0 (x - 1) (sw (a++b) i)=ex 0 (x - 1) (sw a (sw b i));rw [iha]
  have e:∀i,sw (k :: ks).reverse i=sw ks.reverse (ex 0 (k - 1) i):=fun i=>by
   rw [List.reverse_cons,app]
   rfl
  refine ⟨fun i hi=>z0m (by lia) (by lia) (ih.lt i hi),fun i hi=>by rw [e];exact ih.lt' _ (z0m (by lia) (by lia) hi),fun i hi=>?_,fun i hi=>?_⟩
  ·rw [e]
   show sw ks.reverse (ex 0 (k - 1) (ex 0 (k - 1) (sw ks i)))=i
   rw [z0n,ih.rp i hi]
  ·rw [e]
   show ex 0 (k - 1) (sw ks (sw ks.reverse (ex 0 (k - 1) i)))=i
   rw [ih.pr _ (z0m (by lia) (by lia) hi),z0n]
theorem z38:∀{n:Nat} (ks:List Nat),Nums n ks→∀i,n≤i→sw ks i=i
 | _,[],_,_,_=>rfl
 | n,k :: ks,h,i,hi=>by
  obtain ⟨h1,h2⟩:=h.hd
  show ex 0 (k - 1) (sw ks i)=i
  rw [z38 ks h.tl i hi,ex_o (by lia) (by lia)]
theorem z0B:∀{n:Nat} (ks:List Nat),1≤n→Nums n ks→cost n (sw ks)≤(ks.length:Int)
 | n,[],hn,_=>by
  have:cost n (sw [])=0:=z1S hn fun i _=>rfl
  rw [this]
  exact Int.le_refl _
 | n,k :: ks,hn,h=>by
  obtain ⟨h1,h2⟩:=h.hd
  have ih:=z0B ks hn h.tl
  have b1:=ZE ks h.tl
  have b2:=ZE (k :: ks) h
  rw [Zt b2]
  have e:cost n (sw (k :: ks).reverse)=cost n (fun i=>sw ks.reverse (ex 0 (k - 1) i)):=jf fun i _=>by
   rw [List.reverse_cons]
   have app:∀(a b:List Nat) (i:Nat),sw (a++b) i=sw a (sw b i):=by
    intro a b i
    induction a with
    | nil=>rfl
    | cons x a iha=>show ex 0 (x - 1) (sw (a++b) i)=ex 0 (x - 1) (sw a (sw b i));rw [iha]
   rw [app]
   rfl
  rw [e]
  have:=z4g (k:=k - 1) b1.symm (by lia) (by lia)
  rw [←Zt b1] at this
  rw [kI]
  lia
theorem z3I {n m:Nat} {ks:List Nat} (hn:1≤n) (h:Nums n ks) (hm:n≤m):cost m (sw ks)=cost n (sw ks):=
 JR hn (ZE ks h).lt m hm fun i h1 _=>z38 ks h i h1
noncomputable def nxtS (lying order:List Nat):Option Nat:=
 if lying.getD 0 0=order.getD 0 0 then (match (List.range order.length).filter (fun i=>decide (lying.getD i 0≠order.getD i 0)) with
  | []=>none
  | a :: _=>some (a+1))
 else some (order.idxOf (lying.getD 0 0)+1)
inductive Way (order:List Nat):List Nat→List Nat→Prop
 | done {lying:List Nat} (h:nxtS lying order=none):Way order lying []
 | step {lying ks:List Nat} {k:Nat} (h:nxtS lying order=some k) (t:Way order (exch lying (k - 1)) ks):Way order lying (k :: ks)
theorem z1u:∀(l:List Nat) (i x:Nat),l[i]?=some x→(∀j,j < i→l[j]?≠some x)→l.idxOf x=i
 | [],_,_,h,_=>by cases h
 | y :: l,0,x,h,_=>by
  have:y=x:=by simpa using h
  subst this
  simp
 | y :: l,i+1,x,h,g=>by
  have hy:y≠x:=fun z=>g 0 (by lia) (by rw [z];rfl)
  rw [List.idxOf_cons,show (y == x)=false by simpa using hy]
  have:=z1u l i x (by simpa using h) fun j hj z=>g (j+1) (by lia) (by simpa using z)
  rw [this]
  rfl
theorem z3q {n:Nat} {order:List Nat} {r:Nat→Nat} (hl:order.length=n) (O:Bij n (lf order) r) {x:Nat} (hx:x < n):order.idxOf x=r x:=by
 have h1:=O.lt' x hx
 have h2:=O.pr x hx
 have at_:∀i,i < n→order[i]?=some (lf order i):=fun i hi=>by
  rw [jX (by lia) 0,List.getD_eq_getElem?_getD,kE (by lia)]
  rfl
 refine z1u order (r x) x (by rw [at_ _ h1,h2]) fun j hj z=>?_
 rw [at_ j (by lia)] at z
 have:j=r x:=O.inj (i:=j) (j:=r x) (by lia) h1 (by rw [ku z,h2])
 lia
theorem z4l {n:Nat} {order:List Nat} {r:Nat→Nat} (hn:1≤n) (hl:order.length=n) (O:Bij n (lf order) r):∀(m:Nat) (lying:List Nat) (r2:Nat→Nat),lying.length=n→Bij n (lf lying) r2→mu n (fun i=>r (lf lying i))≤m→
  ∃ks,Way order lying ks∧(ks.length:Int)=cost n (fun i=>r (lf lying i))∧Nums n ks∧zn lying ks=order:=by
 intro m
 induction m with
 | zero=>
  intro lying r2 h1 h2 h3
  exfalso
  have:mu n (fun i=>r (lf lying i))=2 * (n - fx n fun i=>r (lf lying i))+bt (r (lf lying 0)=0):=rfl
  have f:fx n (fun i=>r (lf lying i))≤n - 1:=by
   have key:∀(j:Nat) (p:Nat→Nat),fx j p≤j - 1:=by
    intro j
    induction j with
    | zero=>intro p;exact kc _
    | succ j ih=>
     intro p
     unfold fx
     by_cases z:j=0
     ·subst z;rw [bt_f (by lia)];exact kc _
     ·have:=ih p;have:=z4h (j≠0∧p j=j);lia
   exact key n _
  lia
 | succ m ih=>
  intro lying r2 h1 h2 h3
  have B:Bij n (fun i=>r (lf lying i)) (fun i=>r2 (lf order i)):=by
   refine ⟨fun i hi=>O.lt' _ (h2.lt i hi),fun i hi=>h2.lt' _ (O.lt i hi),fun i hi=>?_,fun i hi=>?_⟩
   ·show r2 (lf order (r (lf lying i)))=i
    rw [O.pr _ (h2.lt i hi),h2.rp i hi]
   ·show r (lf lying (r2 (lf order i)))=i
    rw [h2.pr _ (O.lt i hi),O.rp i hi]
  have right:∀i,i < n→(r (lf lying i)=i↔lying.getD i 0=order.getD i 0):=fun i hi=>by
   rw [←jX (show i < lying.length by lia) 0,←jX (show i < order.length by lia) 0]
   constructor
   ·intro e
    have:=O.pr _ (h2.lt i hi)
    rw [e] at this
    exact this.symm
   ·intro e
    rw [e,O.rp i hi]
  have go:∀k,0 < k→k < n→nxtS lying order=some (k+1)→cost n (fun i=>r (lf lying (ex 0 k i)))+1=cost n (fun i=>r (lf lying i))→mu n (fun i=>r (lf lying (ex 0 k i))) < mu n (fun i=>r (lf lying i))→
    ∃ks,Way order lying ks∧(ks.length:Int)=cost n (fun i=>r (lf lying i))∧Nums n ks∧zn lying ks=order:=fun k k0 kn hx hc hmu=>by
   have e:(fun i=>r (lf (exch lying k) i))=fun i=>r (lf lying (ex 0 k i)):=funext fun i=>by rw [Q2 k0 (by lia)]
   have e2:lf (exch lying k)=fun i=>lf lying (ex 0 k i):=funext fun i=>Q2 k0 (by lia) i
   obtain ⟨ks,w1,w2,w3,w4⟩:=ih (exch lying k) (fun i=>ex 0 k (r2 i)) (by rw [qO];exact h1) (by rw [e2];exact h2.ex (by lia) kn) (by rw [e];lia)
   rw [e] at w2
   refine ⟨(k+1) :: ks,.step hx (by rw [Nat.add_sub_cancel];exact w1),?_,?_,?_⟩
   ·rw [kI];lia
   ·intro x hx
    rcases kx.mp hx with z | z
    ·lia
    ·exact w3 x z
   ·show zn (exch lying (k+1 - 1)) ks=order
    rw [Nat.add_sub_cancel]
    exact w4
  by_cases h0:lying.getD 0 0=order.getD 0 0
  ·have p0:r (lf lying 0)=0:=(right 0 (by lia)).mpr h0
   cases hf:(List.range order.length).filter (fun i=>decide (lying.getD i 0≠order.getD i 0)) with
   | nil=>
    have hall:∀i,i < n→lying.getD i 0=order.getD i 0:=fun i hi=>by
     have:=List.filter_eq_nil_iff.mp hf i (List.mem_range.mpr (by lia))
     simpa using this
    refine ⟨[],.done ?_,?_,(fun _ h=>by cases h),?_⟩
    ·unfold nxtS
     rw [kr h0,hf]
    ·rw [z1S hn fun i hi=>(right i hi).mpr (hall i hi)];rfl
    ·show lying=order
     refine z4V (by lia) fun i hi=>?_
     rw [jX hi 0,jX (by lia) 0]
     exact hall i (by lia)
   | cons a t=>
    have ha:a∈(List.range order.length).filter (fun i=>decide (lying.getD i 0≠order.getD i 0)):=by rw [hf];exact kJ ..
    rw [List.mem_filter,List.mem_range,decide_eq_true_iff] at ha
    have a0:0 < a:=by
     rcases Nat.eq_zero_or_pos a with z | z
     ·exact absurd (by rw [z];exact h0) ha.2
     ·exact z
    have aw:r (lf lying a)≠a:=fun z=>ha.2 ((right a (by lia)).mp z)
    exact go a a0 (by lia) (by unfold nxtS;rw [kr h0,hf]) (z2V B a0 (by lia) p0 aw) (z4T B a0 (by lia) p0 aw)
  ·have p0:r (lf lying 0)≠0:=fun z=>h0 ((right 0 (by lia)).mp z)
   have pl:=B.lt 0 (by lia)
   refine go (r (lf lying 0)) (by lia) pl ?_ (JQ B (by lia) pl rfl) (z4S B (by lia) pl rfl)
   unfold nxtS
   rw [kq h0,←jX (show 0 < lying.length by lia) 0,z3q hl O (h2.lt 0 (by lia))]
theorem z4k {n:Nat} {ks:List Nat} (hn:1≤n) (h:Nums n ks):∃ks',Way (zn (List.range n) ks) (List.range n) ks'∧(ks'.length:Int)=cost n (sw ks)∧Nums n ks'∧zn (List.range n) ks'=zn (List.range n) ks:=by
 have hlen:(zn (List.range n) ks).length=n:=by rw [zZ,List.length_range]
 have e:∀i,lf (zn (List.range n) ks) i=sw ks i:=fun i=>by rw [jv ks _ (by rw [List.length_range];exact h),je]
 have b:=ZE ks h
 have O:Bij n (lf (zn (List.range n) ks)) (sw ks.reverse):=by
  rw [show lf (zn (List.range n) ks)=sw ks from funext e]
  exact b
 have R:Bij n (lf (List.range n)) id:=by
  rw [show lf (List.range n)=id from funext (je n)]
  exact ⟨fun _ h=>h,fun _ h=>h,fun _ _=>rfl,fun _ _=>rfl⟩
 obtain ⟨ks',w1,w2,w3,w4⟩:=z4l hn hlen O _ (List.range n) id (List.length_range ..) R (kc _)
 refine ⟨ks',w1,?_,w3,w4⟩
 rw [w2,Zt b]
 exact jf fun i _=>by rw [je]
noncomputable def iv (l:List Nat):List Int:=l.map fun i:Nat=>(i:Int)
noncomputable def nv (l:List Nat):List V:=(iv l).map V.int
theorem JK (l:List Nat):(iv l).length=l.length:=by unfold iv;rw [kg]
theorem zx (l:List Nat):(nv l).length=l.length:=by unfold nv;rw [kg,JK]
theorem jJ {l:List Nat} {i:Nat} (h:i < l.length):(nv l)[i]?=some (.int ((l.getD i 0:Nat):Int)):=by
 unfold nv iv
 rw [List.getElem?_map,List.getElem?_map,kE h,List.getD_eq_getElem?_getD,kE h]
 rfl
theorem JE (l:List Nat) (i x:Nat):(nv l).set i (.int (x:Int))=nv (l.set i x):=by
 unfold nv iv
 rw [List.map_set,List.map_set]
theorem Q7 {n j:Nat} (h:j < n):ixN n (j:Int)=some j:=by
 unfold ixN
 rw [kr (by lia),kr (by lia)]
 simp
theorem JF (a b:List Nat):nv (a++b)=nv a++nv b:=by unfold nv iv;rw [kD,kD]
section
def z0K:Sp:=fun vs H Q _=>∃(l:Addr) (ls:List Nat) (k:Nat),vs=[.ref l,.int (k:Nat)]∧H l=some (.lst (nv ls))∧2≤k∧k≤ls.length∧ls.length≤1000∧∀d H',Same H H'→H d=none→H' d=some (.lst (nv (exch ls (k - 1))))→Q (.ref d) H'
theorem sc58:zh ["lying","number","found"] ["lying","number"] (zd (top 58)):=fsM
theorem z4d (D:zo K mg "exchanged" (top 58)) (G:Glo mg):FN P w K mg base 1 "exchanged" ["lying","number"] z0K:=by
 refine FN.o D sc58 fun f cdv A outer s H vs Q E hr h=>?_
 obtain ⟨l,ls,k,rfl,hl,h2,hk,hn,q⟩:=h
 refine ⟨_,zb (zw (i:=2) sc58.nd rfl (Or.inl rfl) (Qq jT rfl G.list jA (z0 (pv 0) z7)))
  (zb (j3 (qz (z0 (zC zE (pv 2) (zI Zj (pv 1) zf) (fun _ _=>rfl)) (z0 (zC zE (pv 2) zf (fun _ _=>rfl)) z7))) (jr rfl (zr (jM (pv 2) zf qD) (zr (jM (pv 2) (zI Zj (pv 1) zf) qD) qp))))
  (ze (zi (pv 2)))),?_⟩
 refine ⟨_,rfl,l,_,rfl,.inl (SqL.of hl),fun p hp=>?_⟩
 have s1:=zg hp (.lst (nv ls))
 have e1:(k:Int) - 1=((k - 1:Nat):Int):=by lia
 have hk1:k - 1 < ls.length:=by lia
 refine ⟨_,rfl,_,rfl,_,_,rfl,rfl,p,_,_,_,rfl,rfl,SqL.of z6,by rw [e1];exact zj (jJ hk1),_,rfl,p,_,_,_,rfl,rfl,SqL.of z6,zj (j:=0) (jJ (by lia)),by show 2≤sizeLine;decide,fun t ht=>?_⟩
 have npt:p≠t:=z8 (H:=upd H p (.lst (nv ls))) z6 ht
 have hp2:upd (upd H p (.lst (nv ls))) t (.tup [.int ((ls.getD (k - 1) 0:Nat):Int),.int ((ls.getD 0 0:Nat):Int)]) p=some (.lst (nv ls)):=by rw [zc npt];exact z6
 refine ⟨t,_,rfl,SqT.of z6,rfl,_,_,rfl,?_⟩
 refine ⟨_,rfl,p,_,_,0,rfl,rfl,hp2,by rw [zx];exact Q7 (n:=ls.length) (j:=0) (by lia),?_⟩
 rw [JE]
 refine ⟨_,_,rfl,_,rfl,_,rfl,_,_,rfl,rfl,p,_,_,k - 1,rfl,rfl,z6,by rw [zx,List.length_set,e1];exact Q7 hk1,?_⟩
 rw [JE]
 refine ⟨rfl,_,rfl,q p _ ?_ hp z6⟩
 intro b o e
 have nb:b≠p:=z8 e hp
 have nt:b≠t:=z8 (s1 _ _ e) ht
 rw [zc nb,zc nb,zc nt,zc nb]
 exact e
end
theorem zW {i:Nat} {x:V} {σ:L2.St} {H:Hp} {Q:L2.St→Hp→Prop} (h:Q (σ.set i (some x)) H):Qa i x σ H Q:=h
theorem z1T {n:Nat} {g:TG} {tc:TT} {te:TE} {R:Hp→Prop} {H:Hp} {l:Addr} {σ0:L2.St} (Pv:Nat→List V→L2.St→Hp→Prop) (h0:Pv 0 [] σ0 (upd H l (.lst [])))
  (hs:∀(i:Nat) ys σ H,i < n→Pv i ys σ H→g (.int (i:Int)) σ H fun σ2 H4=>tc σ2 H4 fun b H5=>if b=true then te σ2 H5 fun v H6=>H6 l=some (.lst ys)∧ys.length < sizeLine∧∃m',m' < n - i∧m'=n - (i+1)∧i+1≤n∧Pv (i+1) (ys++[v]) σ2 (upd H6 l (.lst (ys++[v])))
   else ∃m',m' < n - i∧m'=n - (i+1)∧i+1≤n∧Pv (i+1) ys σ2 H5) (hd:∀ys σ H,Pv n ys σ H→R H):
  ∃W:Nat→Nat→List V→L2.St→Hp→Prop,(∃m,W 0 m [] σ0 (upd H l (.lst [])))∧∀i m ys σ' H2,W i m ys σ' H2→
   ((Itr 0 n).stop i H2∧R H2)∨((Itr 0 n).go i H2∧∀x H3,(Itr 0 n).yld i H2 x H3→g x σ' H3 fun σ2 H4=>tc σ2 H4 fun b H5=>if b=true then te σ2 H5 fun v H6=>H6 l=some (.lst ys)∧ys.length < sizeLine∧∃m',m' < m∧W (i+1) m' (ys++[v]) σ2 (upd H6 l (.lst (ys++[v])))
    else ∃m',m' < m∧W (i+1) m' ys σ2 H5):=by
 refine ⟨fun i m ys σ H=>m=n - i∧i≤n∧Pv i ys σ H,⟨n,by simp,Nat.zero_le _,h0⟩,?_⟩
 rintro i m ys σ H ⟨rfl,hi,p⟩
 by_cases hlt:i < n
 ·refine .inr ⟨hlt,fun x H' y=>?_⟩
  obtain ⟨e,e2⟩:=y
  subst e
  have e2:x=.int (i:Int):=by rw [e2,Int.zero_add]
  subst e2
  exact hs i ys σ _ hlt p
 ·have e:i=n:=by lia
  subst e
  exact .inl ⟨kc _,hd ys σ H p⟩
noncomputable def z1U:Scope:=match (zH (top 59)).getD 1 (.Pass ⟨0,0,0,0⟩) with
 | .Assign _ (.ListComp _ _ s _) _=>s
 | _=>zd (top 59)
noncomputable def nm59:List (Str × NameKind):=[(".0",.local),("place",.local),("lying",.cell),("order",.cell)]
noncomputable def cl59 (L:Addr):List (Str × Addr):=[("order",L+2),("lying",L+1)]
noncomputable def N59:List Str:=["place","lying","order"]
theorem sc59:zh ["lying","order","wrong"] ["lying","order"] (zd (top 59)):=fsM
theorem z5h (f:Addr) (cdv:Value) (L:Addr):closureFor z1U (envOfC "next_swap" (zd (top 59)) L f cdv)=pure (cl59 L):=by rfl
theorem z5x (f:Addr) (cdv:Value) (L:Addr):(relabel z1U (envOfC "next_swap" (zd (top 59)) L f cdv)).names=nm59:=by rfl
theorem nd59:N59.Nodup:=by trivial
theorem cs59 {P:Program} {w:World} {K:ko} {mg:Str→Option Value} {base:Heap} {f:Addr} {cdv:Value} {A:Around} {outer:List Env} {s:Shared} {H:Hp} {E:XK}:
  qh (cxOf CX0 P w K mg base ["lying","order","wrong"] "next_swap" (zd (top 59)) f cdv A outer s H E).nox N59 1 [0,1] z1U (cl59 s.heap.objs.size) where
 clos:=z5h f cdv s.heap.objs.size
 nocell:=by trivial
 kind:=rfl
 names:=by trivial
 sub:=fun x c e=>by
  have hm:=PySem.mem_of_lookup e
  simp only [cl59,kx,Prod.mk.injEq,kl,or_false] at hm
  rcases hm with ⟨rfl,rfl⟩ | ⟨rfl,rfl⟩
  ·rfl
  ·rfl
 has:=fun x h=>by
  have e:=z5x f cdv s.heap.objs.size
  have h:nm59.lookup x=some .cell∨nm59.lookup x=some .free:=by rw [←e];exact h
  have:x="lying"∨x="order":=by
   rcases h with h | h
   ·have hm:=PySem.mem_of_lookup h
    simp only [nm59,kx,Prod.mk.injEq,kl,or_false] at hm
    rcases hm with z | z | z | z
    ·cases z.2
    ·cases z.2
    ·exact .inl z.1
    ·exact .inr z.1
   ·have hm:=PySem.mem_of_lookup h
    simp only [nm59,kx,Prod.mk.injEq,kl,or_false] at hm
    rcases hm with z | z | z | z
    all_goals first | exact z.2.elim | cases z.2
  rcases this with rfl | rfl
  ·exact ⟨_,rfl⟩
  ·exact ⟨_,rfl⟩
 len:=rfl
 free:=fun j x e=>by
  match j,e with
  | 0,e=>cases e;exact ⟨0,rfl,rfl,rfl,rfl,fun c h=>h⟩
  | 1,e=>cases e;exact ⟨1,rfl,rfl,rfl,rfl,fun c h=>h⟩
  | j+2,e=>exact absurd e (by rw [List.getElem?_eq_none (by show 3≤1+(j+2);lia)];exact nofun)
theorem Jd:∀(l:List Nat) (x m:Nat),m < l.idxOf x→l[m]?≠some x
 | [],_,_,h=>by simp at h
 | y :: l,x,m,h=>by
  rw [List.idxOf_cons] at h
  by_cases e:y=x
  ·rw [show (y == x)=true by simpa using e] at h
   simp at h
  ·rw [show (y == x)=false by simpa using e] at h
   simp only [cond_false] at h
   cases m with
   | zero=>simpa using e
   | succ m=>
    have:=Jd l x m (by lia)
    simpa using this
noncomputable def jm (ls os:List Nat) (n:Nat):List Nat:=(List.range n).filter fun i=>decide (ls.getD i 0≠os.getD i 0)
theorem JW (ls os:List Nat) (n:Nat):(jm ls os n).length≤n:=by
 have:=List.length_filter_le (fun i=>decide (ls.getD i 0≠os.getD i 0)) (List.range n)
 rw [List.length_range] at this
 exact this
theorem Z6 (ls os:List Nat) (n:Nat):jm ls os (n+1)=if ls.getD n 0=os.getD n 0 then jm ls os n else jm ls os n++[n]:=by
 unfold jm
 rw [List.range_succ,List.filter_append]
 by_cases h:ls.getD n 0=os.getD n 0
 ·rw [kr h,List.filter_cons,kq (by simpa using h)];exact kN _
 ·rw [kq h,List.filter_cons,kr (by simpa using h)];rfl
noncomputable def numV:Option Nat→V
 | none=>.non
 | some k=>.int (k:Nat)
section
def z4x:Sp:=fun vs H Q _=>∃(l o:Addr) (ls os:List Nat),vs=[.ref l,.ref o]∧H l=some (.lst (nv ls))∧H o=some (.lst (nv os))∧ls.length=os.length∧1≤os.length∧os.length≤1000∧ls.getD 0 0∈os∧∀H',Same H H'→Q (numV (nxtS ls os)) H'
theorem z5b (D:zo K mg "next_swap" (top 59)) (G:Glo mg):FN P w K mg base 1 "next_swap" ["lying","order"] z4x:=by
 refine FN.o D sc59 fun f cdv A outer s H vs Q E hr h=>?_
 obtain ⟨l,o,ls,os,rfl,hl,ho,hlo,h1,hn,hm,q⟩:=h
 refine ⟨_,zb (qc (zq Q0 (zC zE (pv 0) zf (fun _ _=>rfl)) (zC zE (pv 1) zf (fun _ _=>rfl)) (zu _)) (ze (zi (zI qL (ZY F.plainAttrs_list F.slot_list_index F.type_list_index z1h (pv 1) (z0 (zC zE (pv 0) zf (fun _ _=>rfl)) z7)) zf))) zA)
  (zb (Zi (i:=2) (N:=N59) (nt:=1) (ix:=[0,1]) (cl:=cl59 s.heap.objs.size) rfl sc59.nd rfl (Or.inl rfl) cs59 (jq rfl G.range (z0 (zl zk rfl G.len zF (z0 (pv 1) z7)) z7))
   (fun _ _ _ _=>zm (i:=0) nd59 rfl (Or.inl rfl)) (fun _ _ _ _=>ZU (zq Q0 (zC (Q6 (K:=K) rfl) (pv 1) (pv 0) (fun _ _=>rfl)) (zC (Q6 (K:=K) rfl) (pv 2) (pv 0) (fun _ _=>rfl)) (zu _))) (fun _ _ _ _=>pv 0))
  (ze (zi (js (Z2 (pv 2) (fun _=>rfl)) (zI qL (zC zE (pv 2) zf (fun _ _=>rfl)) zf) qA)))),?_⟩
 refine ⟨_,rfl,l,_,_,_,rfl,rfl,SqL.of hl,zj (j:=0) (jJ (by lia)),_,rfl,o,_,_,_,rfl,rfl,SqL.of ho,zj (j:=0) (jJ (by lia)),rfl,!decide (ls.getD 0 0=os.getD 0 0),?_,?_⟩
 ·congr 2
  rw [Bool.eq_iff_iff,decide_eq_true_iff,decide_eq_true_iff]
  constructor
  ·intro z;have:=V.int.inj z;lia
  ·intro z;rw [z]
 by_cases h0:ls.getD 0 0=os.getD 0 0
 case neg=>
  rw [ke h0]
  have hi:os.idxOf (ls.getD 0 0) < os.length:=List.idxOf_lt_length_of_mem hm
  refine iteT ⟨_,rfl,.inl ⟨rfl,_,SqL.of ho⟩,_,rfl,l,_,_,_,rfl,rfl,SqL.of hl,zj (j:=0) (jJ (by lia)),o,iv os,_,os.idxOf (ls.getD 0 0),rfl,rfl,ho,?_,?_,by rw [JK];exact hn,_,_,rfl,rfl,?_⟩
  ·unfold iv
   rw [List.getElem?_map,kE hi,List.getElem_idxOf hi]
   rfl
  ·intro m hlt z
   unfold iv at z
   rw [List.getElem?_map] at z
   have:=Jd os (ls.getD 0 0) m hlt
   cases e:os[m]? with
   | none=>rw [e] at z;cases z
   | some y=>
    rw [e] at z this
    have z:((y:Nat):Int)=((ls.getD 0 0:Nat):Int):=ku z
    exact this (by congr 1;lia)
  ·have:numV (nxtS ls os)=.int (((os.idxOf (ls.getD 0 0):Nat):Int)+1):=by
    unfold nxtS
    rw [kq h0]
    show V.int ((os.idxOf (ls.getD 0 0)+1:Nat):Int)=_
    congr 1
   rw [this] at q
   exact q H (Same.refl _)
 rw [kf h0]
 refine iteF ?_
 refine ⟨_,rfl,o,_,rfl,.inl (SqL.of ho),_,rfl,by lia,by rw [zx];lia,fun wl hwl=>z1T (n:=(nv os).length) (fun i ys σ H4=>(∃x:Option V,σ=[x,some (.ref l),some (.ref o)])∧ys=nv (jm ls os i)∧Same H H4∧H4 wl=some (.lst ys)) ⟨⟨none,rfl⟩,rfl,zg hwl _,z6⟩ ?_ ?_⟩
 ·rintro i ys σ H4 hi ⟨⟨x,rfl⟩,rfl,s4,hw4⟩
  rw [zx] at hi
  refine zW ?_
  refine ⟨_,rfl,_,rfl,l,_,_,_,rfl,rfl,SqL.of (s4 _ _ hl),zj (jJ (by lia)),_,rfl,_,rfl,o,_,_,_,rfl,rfl,SqL.of (s4 _ _ ho),zj (jJ (by lia)),rfl,!decide (ls.getD i 0=os.getD i 0),?_,?_⟩
  ·congr 2
   rw [Bool.eq_iff_iff,decide_eq_true_iff,decide_eq_true_iff]
   constructor
   ·intro z;have:=V.int.inj z;lia
   ·intro z;rw [z]
  by_cases hb:ls.getD i 0=os.getD i 0
  ·rw [kf hb]
   refine iteF ⟨os.length - (i+1),by rw [zx];lia,by rw [zx],by rw [zx];lia,⟨_,rfl⟩,?_,s4,hw4⟩
   rw [Z6,kr hb]
  ·rw [ke hb]
   refine iteT ⟨_,rfl,hw4,?_,os.length - (i+1),by rw [zx];lia,by rw [zx],by rw [zx];lia,⟨_,rfl⟩,?_,?_,z6⟩
   ·rw [zx]
    exact Nat.lt_of_le_of_lt (JW ls os i) (by rw [sizeLine_eq];lia)
   ·rw [Z6,kq hb,JF]
    rfl
   ·exact My.Same.upd s4 hwl _
 ·rintro ys σ H4 ⟨_,rfl,s4,hw4⟩
  rw [zx] at hw4
  cases hw:jm ls os os.length with
  | nil=>
   rw [hw] at hw4
   have:nxtS ls os=none:=by
    unfold nxtS
    rw [kr h0]
    unfold jm at hw
    rw [hw]
   rw [this] at q
   exact ⟨_,rfl,false,.inl ⟨_,SqL.of hw4,rfl⟩,iteF (q H4 s4)⟩
  | cons a t=>
   rw [hw] at hw4
   have:nxtS ls os=some (a+1):=by
    unfold nxtS
    rw [kr h0]
    unfold jm at hw
    rw [hw]
   rw [this] at q
   refine ⟨_,rfl,true,.inl ⟨_,SqL.of hw4,rfl⟩,iteT ⟨_,rfl,wl,_,_,_,rfl,rfl,SqL.of hw4,zj (j:=0) rfl,_,_,rfl,rfl,q H4 s4⟩⟩
end
inductive WayC (os:List Nat):List Nat→List Nat→Prop
 | done {ls:List Nat} (h:nxtS ls os=none) (hl:ls.length=os.length) (hm:ls.getD 0 0∈os):WayC os ls []
 | step {ls ks:List Nat} {k:Nat} (h:nxtS ls os=some k) (hl:ls.length=os.length) (hm:ls.getD 0 0∈os) (h2:2≤k) (hk:k≤os.length) (t:WayC os (exch ls (k - 1)) ks):WayC os ls (k :: ks)
theorem WayC.len {os ls ks:List Nat} (h:WayC os ls ks):ls.length=os.length:=by cases h <;> assumption
theorem WayC.mem {os ls ks:List Nat} (h:WayC os ls ks):ls.getD 0 0∈os:=by cases h <;> assumption
theorem z5k {n:Nat} {os:List Nat} {r:Nat→Nat} (hn:1≤n) (hl:os.length=n) (O:Bij n (lf os) r) {ls ks:List Nat} (w:Way os ls ks):∀(r2:Nat→Nat),ls.length=n→Bij n (lf ls) r2→WayC os ls ks:=by
 have mem:∀{ls:List Nat} {r2:Nat→Nat},ls.length=n→Bij n (lf ls) r2→ls.getD 0 0∈os:=fun {ls r2} h1 h2=>by
  have hx:=h2.lt 0 (by lia)
  rw [jX (show 0 < ls.length by lia) 0] at hx
  have h3:=O.lt' _ hx
  have h4:=O.pr _ hx
  rw [jX (show r (ls.getD 0 0) < os.length by lia) 0,List.getD_eq_getElem?_getD,kE (by lia)] at h4
  have h4:os[r (ls.getD 0 0)]'(by lia)=ls.getD 0 0:=h4
  rw [←h4]
  exact List.getElem_mem _
 induction w with
 | done h=>exact fun r2 h1 h2=>.done h (by lia) (mem h1 h2)
 | @step ls ks k h t ih=>
  intro r2 h1 h2
  have hk:2≤k∧k≤n:=by
   unfold nxtS at h
   by_cases h0:ls.getD 0 0=os.getD 0 0
   ·rw [kr h0] at h
    cases hf:(List.range os.length).filter (fun i=>decide (ls.getD i 0≠os.getD i 0)) with
    | nil=>rw [hf] at h;cases h
    | cons a tl=>
     rw [hf] at h
     have ha:a∈(List.range os.length).filter (fun i=>decide (ls.getD i 0≠os.getD i 0)):=by rw [hf];exact kJ ..
     rw [List.mem_filter,List.mem_range,decide_eq_true_iff] at ha
     have a0:a≠0:=fun z=>ha.2 (by rw [z];exact h0)
     have:a+1=k:=ku h
     lia
   ·rw [kq h0] at h
    have hx:=h2.lt 0 (by lia)
    rw [jX (show 0 < ls.length by lia) 0] at hx
    rw [z3q hl O hx] at h
    have:r (ls.getD 0 0)+1=k:=ku h
    have h3:=O.lt' _ hx
    have h4:r (ls.getD 0 0)≠0:=fun z=>h0 (by
     have:=O.pr _ hx
     rw [z,jX (show 0 < os.length by lia) 0] at this
     exact this.symm)
    lia
  refine .step h (by lia) (mem h1 h2) hk.1 (by lia) ?_
  refine ih (fun i=>ex 0 (k - 1) (r2 i)) (by rw [qO];exact h1) ?_
  have e2:lf (exch ls (k - 1))=fun i=>lf ls (ex 0 (k - 1) i):=funext fun i=>Q2 (by lia) (by lia) i
  rw [e2]
  exact h2.ex (by lia) (by lia)
theorem QV {n:Nat} {ks:List Nat} (hn:1≤n) (h:Nums n ks):∃ks',WayC (zn (List.range n) ks) (List.range n) ks'∧(ks'.length:Int)=cost n (sw ks)∧Nums n ks'∧zn (List.range n) ks'=zn (List.range n) ks∧ks'.length≤ks.length:=by
 obtain ⟨ks',w1,w2,w3,w4⟩:=z4k hn h
 have hlen:(zn (List.range n) ks).length=n:=by rw [zZ,List.length_range]
 have e:∀i,lf (zn (List.range n) ks) i=sw ks i:=fun i=>by rw [jv ks _ (by rw [List.length_range];exact h),je]
 have O:Bij n (lf (zn (List.range n) ks)) (sw ks.reverse):=by
  rw [show lf (zn (List.range n) ks)=sw ks from funext e]
  exact ZE ks h
 have R:Bij n (lf (List.range n)) id:=by
  rw [show lf (List.range n)=id from funext (je n)]
  exact ⟨fun _ h=>h,fun _ h=>h,fun _ _=>rfl,fun _ _=>rfl⟩
 refine ⟨ks',z5k hn hlen O w1 id (List.length_range ..) R,w2,w3,w4,?_⟩
 have:=z0B ks hn h
 lia
theorem z5s {n:Nat} {a b:List Nat} (ha:Nums n a) (hb:Nums n b) (h:zn (List.range n) a=zn (List.range n) b):∀i,sw a i=sw b i:=fun i=>by
 have h1:=jv a (List.range n) (by rw [List.length_range];exact ha) i
 have h2:=jv b (List.range n) (by rw [List.length_range];exact hb) i
 rw [je] at h1 h2
 rw [←h1,←h2,h]
theorem z3A {c:TT} {tb:TS} {D:Ends} {σ:L2.St} {H:Hp} (Pv:Nat→L2.St→Hp→Prop) (h0:∃m,Pv m σ H)
  (hs:∀m σ H,Pv m σ H→c σ H fun b H1=>if b=true then tb { D with nx:=fun σ' H'=>∃m',m' < m∧Pv m' σ' H',ct:=fun σ' H'=>∃m',m' < m∧Pv m' σ' H',bk:=D.nx } σ H1 else D.nx σ H1)
  (mono:∀σ H Q Q',(∀b H1,Q b H1→Q' b H1)→c σ H Q→c σ H Q'):z35 c tb D σ H:=by
 refine ⟨Pv,h0,?_⟩
 intro m σ H p
 refine mono σ H _ _ (fun b H1 q=>?_) (hs m σ H p)
 cases b with
 | true=>exact ⟨_,fun σ' H' z=>z,q⟩
 | false=>exact q
section
def spTo:Sp:=fun vs H Q _=>∃(o:Addr) (os ks:List Nat),vs=[.ref o]∧H o=some (.lst (nv os))∧1≤os.length∧os.length≤1000∧WayC os (List.range os.length) ks∧ks.length≤100∧∀d H',Same H H'→H d=none→H' d=some (.lst (nv ks))→Q (.ref d) H'
theorem sc60:zh ["order","lying","found","number"] ["order"] (zd (top 60)):=fsM
theorem z5M (D:zo K mg "swaps_to" (top 60)) (G:Glo mg) (FX:FN P w K mg base 1 "next_swap" ["lying","order"] z4x) (FE:FN P w K mg base 1 "exchanged" ["lying","number"] z0K):FN P w K mg base 2 "swaps_to" ["order"] spTo:=by
 refine FN.o D sc60 fun f cdv A outer s H vs Q E hr h=>?_
 obtain ⟨o,os,ks,rfl,ho,h1,hn,hw,hk,q⟩:=h
 refine ⟨_,zb (zw (i:=1) sc60.nd rfl (Or.inl rfl) (jc rfl rfl G.list rfl G.range (z0 (zl zk rfl G.len zF (z0 (pv 0) z7)) z7)))
  (zb (zw (i:=2) sc60.nd rfl (Or.inl rfl) (qr z7))
  (zb (zw (i:=3) sc60.nd rfl (Or.inl rfl) (zt FX hr rfl (z0 (pv 1) (z0 (pv 0) z7))))
  (zb (Jz PassesOwn.never (zq ZZ (pv 3) qA (zu _))
   (zb (zQ (ZY F.plainAttrs_list F.slot_list_append F.type_list_append qM (pv 2) (z0 (pv 3) z7)))
   (zb (zw (i:=1) sc60.nd rfl (Or.inl rfl) (zt FE hr rfl (z0 (pv 1) (z0 (pv 3) z7))))
   (ze (zw (i:=3) sc60.nd rfl (Or.inl rfl) (zt FX hr rfl (z0 (pv 1) (z0 (pv 0) z7))))))))
  (ze (zi (pv 2)))))),?_⟩
 refine ⟨_,rfl,o,_,rfl,.inl (SqL.of ho),os.length,by rw [zx],hn,fun l hl=>?_⟩
 have el:((List.range os.length).map fun i:Nat=>(i:Int)).map V.int=nv (List.range os.length):=rfl
 rw [el]
 have s1:=zg hl (.lst (nv (List.range os.length)))
 refine ⟨by show 0≤sizeLine;decide,fun fl hfl=>?_⟩
 have s2:=zg hfl (.lst [])
 have s12:=s1.trans s2
 have nlf:l≠fl:=z8 (H:=upd H l (.lst (nv (List.range os.length)))) z6 hfl
 have hfl0:H fl=none:=s1.free hfl
 refine ⟨_,rfl,_,rfl,l,o,List.range os.length,os,rfl,s2 _ _ z6,s12 _ _ ho,List.length_range ..,h1,hn,hw.mem,fun H3 s3=>?_⟩
 refine z3A (fun m σ H2=>∃(l:Addr) (ls dn rest:List Nat),σ=[some (.ref o),some (.ref l),some (.ref fl),some (numV (nxtS ls os))]∧m=rest.length∧WayC os ls rest∧ks=dn++rest∧H2 l=some (.lst (nv ls))∧H2 fl=some (.lst (nv dn))∧l≠fl∧Same H H2)
  ⟨ks.length,l,List.range os.length,[],ks,rfl,rfl,hw,rfl,s3 _ _ (s2 _ _ z6),s3 _ _ z6,nlf,s12.trans s3⟩ ?_ (fun σ H Q Q' hq ⟨x,e,q1,k,e2,q2⟩=>⟨x,e,q1,k,e2,hq _ _ q2⟩)
 rintro m σ H2 ⟨l,ls,dn,rest,rfl,rfl,hw2,rfl,hl2,hf2,nlf,sH⟩
 cases hw2 with
 | done hx hle hm=>
  rw [hx]
  refine ⟨_,rfl,rfl,false,rfl,iteF ⟨_,rfl,q fl H2 sH hfl0 ?_⟩⟩
  rw [hf2,kN]
 | @step _ rest k hx hle hm h2 hk2 ht=>
  rw [hx]
  refine ⟨_,rfl,rfl,true,rfl,iteT ?_⟩
  refine ⟨_,rfl,.inl ⟨rfl,_,SqL.of hf2⟩,_,rfl,fl,_,_,rfl,rfl,hf2,?_,?_⟩
  ·rw [zx]
   rw [kh] at hk
   exact Nat.lt_of_le_of_lt (km (Nat.le_add_right _ _) hk) (by rw [sizeLine_eq];lia)
  have ea:nv dn++[numV (some k)]=nv (dn++[k]):=by rw [JF];rfl
  rw [ea]
  have hl4:upd H2 fl (.lst (nv (dn++[k]))) l=some (.lst (nv ls)):=by rw [zc nlf];exact hl2
  have sH4:Same H (upd H2 fl (.lst (nv (dn++[k])))):=My.Same.upd sH hfl0 _
  refine ⟨_,rfl,_,rfl,l,ls,k,rfl,hl4,h2,by lia,by lia,fun d H5 s5 hd hd5=>?_⟩
  have ndf:d≠fl:=(z8 (H:=upd H2 fl (.lst (nv (dn++[k])))) z6 hd).symm
  have sH5:=sH4.trans s5
  refine ⟨_,rfl,_,rfl,d,o,exch ls (k - 1),os,rfl,hd5,sH5 _ _ ho,ht.len,h1,hn,ht.mem,fun H6 s6=>?_⟩
  exact ⟨rest.length,by simp,d,exch ls (k - 1),dn++[k],rest,rfl,rfl,ht,by simp,s6 _ _ hd5,s6 _ _ (s5 _ _ z6),ndf,sH5.trans s6⟩
end
structure GloS (mg:Str→Option Value):Prop where
 places:∃u,mg "MOST_PLACES"=some u∧RelV (.int 9) u
 sorted:mg "sorted"=none
 zip:mg "zip"=none
theorem Jo:bootBuiltins "sorted"=some (.builtin "sorted"):=by trivial
theorem z20:bootBuiltins "all"=some (.builtin "all"):=by trivial
theorem z1H {l:List Nat} {k:Nat} (h:k < l.length):(exch l k).Perm l:=by
 have h0:0 < l.length:=by lia
 have:=List.set_set_perm (as:=l) (i:=0) (j:=k) h0 h
 unfold exch
 rw [List.getD_eq_getElem?_getD,List.getD_eq_getElem?_getD,kE h,kE h0]
 exact this
theorem ZM:∀(ks l:List Nat),Nums l.length ks→(zn l ks).Perm l
 | [],l,_=>List.Perm.refl l
 | k :: ks,l,h=>by
  obtain ⟨h1,h2⟩:=h.hd
  show (zn (exch l (k - 1)) ks).Perm l
  exact (ZM ks _ (by rw [qO];exact h.tl)).trans (z1H (by lia))
theorem Qk {ns:List Int} {os:List Nat} {n:Nat} (h:os.Perm (List.range n)) (hp:ns.Perm (iv os)) (hs:ns.Pairwise (· ≤·)):ns=iv (List.range n):=by
 refine List.Perm.eq_of_pairwise (le:=(· ≤·)) (fun a b _ _ h1 h2=>Int.le_antisymm h1 h2) hs ?_ (hp.trans (h.map _))
 unfold iv
 rw [List.pairwise_map]
 refine List.Pairwise.imp ?_ List.pairwise_lt_range
 intro a b h
 lia
section
def z4w:Sp:=fun vs H Q _=>∃(o:Addr) (os:List Nat),vs=[.ref o]∧H o=some (.lst (nv os))∧1≤os.length∧os.length≤9∧os.Perm (List.range os.length)∧∀H',Same H H'→Q (.bl true) H'
theorem sc57:zh ["thing"] ["thing"] (zd (top 57)):=fsM
theorem ndN:(["number"]:List Str).Nodup:=by decide
theorem z59 (D:zo K mg "is_order" (top 57)) (G:Glo mg) (GS:GloS mg) (FN1:FN P w K mg base 1 "is_number" ["thing"] (sp1 z2x)):FN P w K mg base 2 "is_order" ["thing"] z4w:=by
 refine FN.o D sc57 fun f cdv A outer s H vs Q E hr h=>?_
 obtain ⟨o,os,rfl,ho,h1,hn,hp,q⟩:=h
 have hu:(A.deeper (envOfC "is_order" (zd (top 57)) s.heap.objs.size f cdv)).units < cLine:=hr.units0
 refine ⟨_,zb (qc (PW.pt (Qn (Zh (qY (zl zR rfl G.isinstance zB (z0 (pv 0) (z0 (Qp "list" rfl G.list jA) z7))))) (Zg (Zh (z2g Qs Qs zf (zl zk rfl G.len zF (z0 (pv 0) z7)) (qE rfl GS.places)))))) (ze (zi jI)) zA)
  (ze (zi (qR (zl (Qe rfl) rfl G.all z20 (z0 (qv (N:=["number"]) (nt:=1) (ix:=[]) (cl:=[]) rfl (qh.plain (by trivial) (by trivial) rfl (by trivial) rfl) (qd (pv 0))
    (fun _ _ _ _=>zm (i:=0) ndN rfl (Or.inl rfl)) (fun _ _ _ _=>qX) (fun _ _ _ _=>zt FN1 hr rfl (z0 (pv 0) z7))) z7))
   (j5 (qe (z4R hu) (zl QK rfl GS.sorted Jo (z0 (pv 0) z7)) (jc rfl rfl G.list rfl G.range (z0 (zl zk rfl G.len zF (z0 (pv 0) z7)) z7)) (zu _)))))),?_⟩
 refine ⟨_,rfl,_,"list",_,true,rfl,.lst ho,rfl,_,rfl,iteF ?_⟩
 refine ⟨_,rfl,o,_,rfl,.inl (SqL.of ho),_,_,rfl,rfl,true,congrArg V.bl (kf ?_),iteT ⟨_,_,rfl,rfl,true,congrArg V.bl (kf ?_),iteF ?_⟩⟩
 ·rw [zx];lia
 ·rw [zx];lia
 refine ⟨_,rfl,o,rfl,⟨_,SqL.of ho⟩,fun bl hbl=>qw (K:=K) (a:=o) (xs:=nv os) (fun i ys σ H2=>(∃a:Option V,σ=[a])∧ys=(List.replicate i true).map V.bl∧Same H H2∧H2 bl=some (.lst ys))
  ⟨⟨none,rfl⟩,rfl,zg hbl _,z6⟩ (fun i ys σ H2 _ ⟨_,_,s2,_⟩=>s2.seq (SqL.of ho)) ?_ ?_⟩
 ·rintro i x ys σ H2 hi ⟨⟨b,rfl⟩,rfl,s2,hp2⟩
  have hil:i < os.length:=by have:=(kd.mp hi).1;rw [zx] at this;exact this
  rw [jJ hil] at hi
  cases hi
  refine zW ?_
  refine jD ⟨_,rfl,_,rfl,.int _,hp2,?_,os.length - (i+1),by rw [zx];lia,by rw [zx],by rw [zx];lia,⟨_,rfl⟩,?_,?_,z6⟩
  ·rw [kg,List.length_replicate,sizeLine_eq];lia
  ·rw [List.replicate_succ',kD];rfl
  ·exact My.Same.upd s2 hbl _
 ·rintro ys σ H2 ⟨_,rfl,s2,hp2⟩
  refine ⟨bl,_,rfl,SqL.of hp2,?_⟩
  have:(List.replicate (nv os).length true).all id=true:=by simp
  rw [this]
  refine ⟨true,rfl,iteT ?_⟩
  refine ⟨_,rfl,o,iv os,rfl,SqL.of (s2 _ _ ho),by rw [JK];lia,fun d ns' hd pm pw=>?_⟩
  have e:=Qk hp pm pw
  subst e
  have s3:=zg hd (.lst ((iv (List.range os.length)).map V.int))
  have s23:=s2.trans s3
  refine ⟨_,rfl,o,_,rfl,.inl (SqL.of (s23 _ _ ho)),os.length,by rw [zx],by lia,fun l hl=>?_⟩
  have s4:=zg hl (.lst (((List.range os.length).map fun i:Nat=>(i:Int)).map V.int))
  refine ⟨d,l,iv (List.range os.length),iv (List.range os.length),rfl,rfl,SqL.of (s4 _ _ z6),SqL.of z6,?_⟩
  rw [kf rfl]
  exact q _ (s23.trans s4)
def z4z:Sp:=fun vs H Q _=>∃(o:Addr) (os ks:List Nat),vs=[.ref o]∧H o=some (.lst (nv os))∧1≤os.length∧os.length≤9∧os.Perm (List.range os.length)∧WayC os (List.range os.length) ks∧ks.length≤100∧∀d H',Same H H'→H d=none→H' d=some (.lst (nv ks))→Q (.ref d) H'
theorem sc61:zh ["order"] ["order"] (zd (top 61)):=fsM
theorem z5e (D:zo K mg "fewest_swaps" (top 61)) (FO:FN P w K mg base 2 "is_order" ["thing"] z4w) (FT:FN P w K mg base 2 "swaps_to" ["order"] spTo):FN P w K mg base 3 "fewest_swaps" ["order"] z4z:=by
 refine FN.o D sc61 fun f cdv A outer s H vs Q E hr h=>?_
 obtain ⟨o,os,ks,rfl,ho,h1,hn,hp,hw,hk,q⟩:=h
 refine ⟨_,zb (qc (Zh (qY (zt FO hr rfl (z0 (pv 0) z7)))) (ze z2h) zA) (ze (zi (zt FT hr rfl (z0 (pv 0) z7)))),?_⟩
 refine ⟨_,rfl,o,os,rfl,ho,h1,hn,hp,fun H1 s1=>⟨_,rfl,iteF ?_⟩⟩
 exact ⟨_,rfl,o,os,ks,rfl,s1 _ _ ho,h1,by lia,hw,hk,fun d H' s' hd hd'=>q d H' (s1.trans s') (s1.free hd) hd'⟩
end
theorem z2W {K:ko} {a b:Addr} {xs zs:List V} (hxz:xs.length≤zs.length) {g:TG} {tc:TT} {te:TE} {R:Hp→Prop} {H:Hp} {l:Addr} {σ0:L2.St} (Pv:Nat→List V→L2.St→Hp→Prop) (h0:Pv 0 [] σ0 (upd H l (.lst []))) (hl:∀i ys σ H,i≤xs.length→Pv i ys σ H→SqL K H a xs∧SqL K H b zs)
  (hs:∀i x z p ys σ H,xs[i]?=some x→zs[i]?=some z→Pv i ys σ H→H p=none→g (.ref p) σ (upd H p (.tup [x,z])) fun σ2 H4=>tc σ2 H4 fun b H5=>if b=true then te σ2 H5 fun v H6=>H6 l=some (.lst ys)∧ys.length < sizeLine∧∃m',m' < xs.length - i∧m'=xs.length - (i+1)∧i+1≤xs.length∧Pv (i+1) (ys++[v]) σ2 (upd H6 l (.lst (ys++[v])))
   else ∃m',m' < xs.length - i∧m'=xs.length - (i+1)∧i+1≤xs.length∧Pv (i+1) ys σ2 H5) (hd:∀ys σ H,Pv xs.length ys σ H→R H):
  ∃W:Nat→Nat→List V→L2.St→Hp→Prop,(∃m,W 0 m [] σ0 (upd H l (.lst [])))∧∀i m ys σ' H2,W i m ys σ' H2→
   ((Itz K a b).stop i H2∧R H2)∨((Itz K a b).go i H2∧∀x H3,(Itz K a b).yld i H2 x H3→g x σ' H3 fun σ2 H4=>tc σ2 H4 fun b H5=>if b=true then te σ2 H5 fun v H6=>H6 l=some (.lst ys)∧ys.length < sizeLine∧∃m',m' < m∧W (i+1) m' (ys++[v]) σ2 (upd H6 l (.lst (ys++[v])))
    else ∃m',m' < m∧W (i+1) m' ys σ2 H5):=by
 refine ⟨fun i m ys σ H=>m=xs.length - i∧i≤xs.length∧Pv i ys σ H,⟨xs.length,by simp,Nat.zero_le _,h0⟩,?_⟩
 rintro i m ys σ H ⟨rfl,hi,p⟩
 obtain ⟨q1,q2⟩:=hl i ys σ H hi p
 by_cases hlt:i < xs.length
 ·have hlz:i < zs.length:=by lia
  refine .inr ⟨⟨xs,zs,xs[i],zs[i],q1,q2,by simp [hlt],by simp [hlz]⟩,fun x H' y=>?_⟩
  obtain ⟨p',y',z',rfl,hn,rfl,y1,y2⟩:=y
  exact hs i y' z' p' ys σ _ (y1 xs q1) (y2 zs q2) p hn
 ·have e:i=xs.length:=by lia
  subst e
  exact .inl ⟨⟨xs,zs,q1,q2,.inl (kc _)⟩,hd ys σ H p⟩
theorem jL:∀(ks l:List Nat) (k:Nat),zn l (ks++[k])=exch (zn l ks) (k - 1)
 | [],_,_=>rfl
 | x :: ks,l,k=>jL ks (exch l (x - 1)) k
theorem jC {l:List Nat} {i:Nat} (h:i < l.length):l.take (i+1)=l.take i++[l.getD i 0]:=by
 rw [List.take_succ,List.getD_eq_getElem?_getD,kE h]
 rfl
section
def z0I:Sp:=fun vs H Q _=>∃(l:Addr) (ks:List Nat),vs=[.ref l]∧H l=some (.lst (nv ks))∧Nums 9 ks∧∀d H',Same H H'→H d=none→H' d=some (.lst (nv (zn (List.range 9) ks)))→Q (.ref d) H'
theorem sc62:zh ["numbers","lying","number"] ["numbers"] (zd (top 62)):=fsM
theorem z2L (D:zo K mg "order_made" (top 62)) (G:Glo mg) (GS:GloS mg) (FE:FN P w K mg base 1 "exchanged" ["lying","number"] z0K):FN P w K mg base 2 "order_made" ["numbers"] z0I:=by
 refine FN.o D sc62 fun f cdv A outer s H vs Q E hr h=>?_
 obtain ⟨l,ks,rfl,hl,hk,q⟩:=h
 refine ⟨_,zb (zw (i:=1) sc62.nd rfl (Or.inl rfl) (jc rfl rfl G.list rfl G.range (z0 (qE rfl GS.places) z7)))
  (zb (jg PassesOwn.never rfl (qd (pv 0)) (zm (i:=2) sc62.nd rfl (Or.inl rfl)) (ze (zw (i:=1) sc62.nd rfl (Or.inl rfl) (zt FE hr rfl (z0 (pv 1) (z0 (pv 2) z7))))))
  (ze (zi (pv 1)))),?_⟩
 refine ⟨9,rfl,by decide,fun d hd=>?_⟩
 have s1:=zg hd (.lst (nv (List.range 9)))
 refine ⟨_,rfl,l,rfl,⟨_,SqL.of (s1 _ _ hl)⟩,jy (xs:=nv ks) (fun i σ H2=>∃(x:Option V) (d:Addr),σ=[some (.ref l),some (.ref d),x]∧H2 d=some (.lst (nv (zn (List.range 9) (ks.take i))))∧H d=none∧Same H H2)
  ⟨_,d,rfl,by rw [List.take_zero];exact z6,hd,s1⟩ (fun i σ H2 _ ⟨_,_,_,_,_,s3⟩=>SqL.of (s3 _ _ hl)) ?_ ?_⟩
 ·rintro i x σ H2 hi ⟨y,d,rfl,hd2,hd0,s2⟩
  have hil:i < ks.length:=by have:=(kd.mp hi).1;rw [zx] at this;exact this
  rw [jJ hil] at hi
  cases hi
  have hki:=hk (ks.getD i 0) (by rw [List.getD_eq_getElem?_getD,kE hil];exact List.getElem_mem _)
  have hal:(zn (List.range 9) (ks.take i)).length=9:=by rw [zZ,List.length_range]
  refine zW ?_
  refine ⟨_,rfl,_,rfl,d,zn (List.range 9) (ks.take i),ks.getD i 0,rfl,hd2,hki.1,by lia,by lia,fun d' H3 s3 hd' hd3=>?_⟩
  refine ⟨_,d',rfl,?_,s2.free hd',s2.trans s3⟩
  rw [jC hil,jL]
  exact hd3
 ·rintro σ H2 ⟨x,d,rfl,hd2,hd0,s2⟩
  rw [zx,List.take_length] at hd2
  exact ⟨_,rfl,q d H2 s2 hd0 hd2⟩
def Grp9:List Row→List Nat→Prop:=Paired fun r k=>r.op="swap"∧r.arg=.int (k:Nat)∧2≤k∧k≤9
noncomputable def putN (ks:List Nat) (rs:List Row):List Row:=List.zipWith (fun k r=>⟨"swap",.int (k:Nat),r.line⟩) ks rs
noncomputable def shM (ks':List Nat) (rs:List Row):List Row:=if ks'.length=rs.length then rs else putN ks' rs
theorem Grp9.nums {rs:List Row} {ks:List Nat} (h:Grp9 rs ks):Nums 9 ks:=by
 unfold Grp9 at h
 induction h with
 | nil=>intro x hx;cases hx
 | cons a t ih=>
  intro x hx
  rcases kx.mp hx with z | z
  ·subst z;exact a.2.2
  ·exact ih x z
def QZ:Sp:=fun vs H Q _=>∃(g:Addr) (as:List Addr) (rs:List Row) (ks ks':List Nat),vs=[.ref g]∧H g=some (.lst (as.map V.ref))∧zp H as rs∧rs.length≤100∧Grp9 rs ks∧WayC (zn (List.range 9) ks) (List.range 9) ks'∧ks'.length≤rs.length∧
 ∀d as' H',Same H H'→(d=g∨H d=none)→H' d=some (.lst (as'.map V.ref))→zp H' as' (shM ks' rs)→Q (.ref d) H'
theorem sc63:zh ["group","numbers"] ["group"] (zd (top 63)):=fsM
theorem Q5 {X:Cx} {K:ko} (hK:X.K=K):IxR X (rIxT K):=by subst hK;exact zV
theorem ndR:(["row"]:List Str).Nodup:=by decide
theorem ndNR:(["number","row"]:List Str).Nodup:=by trivial
theorem z2J (D:zo K mg "shortest" (top 63)) (G:Glo mg) (GS:GloS mg) (FT:FN P w K mg base 2 "swaps_to" ["order"] spTo) (FM:FN P w K mg base 2 "order_made" ["numbers"] z0I):FN P w K mg base 3 "shortest" ["group"] QZ:=by
 refine FN.o D sc63 fun f cdv A outer s H vs Q E hr h=>?_
 obtain ⟨g,as,rs,ks,ks',rfl,hg,hR,hn,hG,hw,hk',q⟩:=h
 have hal:as.length=rs.length:=hR.len
 have hkl:rs.length=ks.length:=Paired.length hG
 refine ⟨_,zb (zw (i:=1) sc63.nd rfl (Or.inl rfl) (zt FT hr rfl (z0 (zt FM hr rfl (z0 (qv (N:=["row"]) (nt:=1) (ix:=[]) (cl:=[]) rfl (qh.plain (by trivial) (by trivial) rfl (by trivial) rfl) (qd (pv 0))
    (fun _ _ _ _=>zm (i:=0) ndR rfl (Or.inl rfl)) (fun _ _ _ _=>qX) (fun _ _ _ _=>zC (Q5 (K:=K) rfl) (pv 0) zf (fun _ _=>rfl))) z7)) z7)))
  (zb (qc (zq jV (zl zk rfl G.len zF (z0 (pv 1) z7)) (zl zk rfl G.len zF (z0 (pv 0) z7)) (zu _)) (ze (zi (pv 0))) zA)
  (ze (zi (qv (N:=["number","row"]) (nt:=2) (ix:=[]) (cl:=[]) rfl (qh.plain (by trivial) (by trivial) rfl (by trivial) rfl) (z4I rfl GS.zip (z0 (pv 1) (z0 (pv 0) z7)))
    (fun _ _ _ _=>ZV (K:=K) (n:=2) rfl rfl (zr (zm (i:=0) ndNR rfl (Or.inl rfl)) (zr (zm (i:=1) ndNR rfl (Or.inl rfl)) qp))) (fun _ _ _ _=>qX)
    (fun _ _ _ _=>qz (z0 zY (z0 (pv 0) (z0 (zC (Q5 (K:=K) rfl) (pv 1) zf (fun _ _=>rfl)) z7)))))))),?_⟩
 refine ⟨_,rfl,g,rfl,⟨_,SqL.of hg⟩,fun nl hnl=>qw (K:=K) (a:=g) (xs:=as.map V.ref) (fun i ys σ H2=>(∃a:Option V,σ=[a])∧ys=nv (ks.take i)∧Same H H2∧H2 nl=some (.lst ys))
  ⟨⟨none,rfl⟩,rfl,zg hnl _,z6⟩ (fun i ys σ H2 _ ⟨_,_,s2,_⟩=>s2.seq (SqL.of hg)) ?_ ?_⟩
 ·rintro i x ys σ H2 hi ⟨⟨b,rfl⟩,rfl,s2,hp2⟩
  obtain ⟨t,r,rfl,er,ht⟩:=(hR.same s2).get hi
  have hil:i < rs.length:=(kd.mp er).1
  have hik:i < ks.length:=by lia
  have hgr:r.op="swap"∧r.arg=.int ((ks.getD i 0:Nat):Int)∧2≤ks.getD i 0∧ks.getD i 0≤9:=by
   have key:∀{rs:List Row} {ks:List Nat} {i:Nat} {r:Row},Grp9 rs ks→rs[i]?=some r→r.op="swap"∧r.arg=.int ((ks.getD i 0:Nat):Int)∧2≤ks.getD i 0∧ks.getD i 0≤9:=by
    intro rs ks i r h e
    unfold Grp9 at h
    induction h generalizing i with
    | nil=>cases e
    | cons a t ih=>
     cases i with
     | zero=>simp at e;subst e;simpa using a
     | succ i=>
      have:=ih (by simpa using e)
      simpa using this
   exact key hG er
  have ht':H2 t=some (.tup [.str r.op,.int ((ks.getD i 0:Nat):Int),.int r.line]):=by rw [←hgr.2.1];exact ht
  refine zW ?_
  refine jD ⟨_,rfl,t,_,_,_,rfl,rfl,SqT.of ht',zj (j:=1) rfl,hp2,?_,rs.length - (i+1),by rw [kg];lia,by rw [kg,hal],by rw [kg];lia,⟨_,rfl⟩,?_,?_,z6⟩
  ·rw [zx,List.length_take,sizeLine_eq];lia
  ·rw [jC hik,JF];rfl
  ·exact My.Same.upd s2 hnl _
 ·rintro ys σ H2 ⟨_,rfl,s2,hp2⟩
  rw [kg,hal,hkl,List.take_length] at hp2
  refine ⟨nl,ks,rfl,hp2,hG.nums,fun d H3 s3 hd hd3=>?_⟩
  have hlen9:(zn (List.range 9) ks).length=9:=by rw [zZ,List.length_range]
  refine ⟨d,zn (List.range 9) ks,ks',rfl,hd3,by lia,by lia,by rw [hlen9];exact hw,by lia,fun nu H4 s4 hnu hnu4=>?_⟩
  have s04:=(s2.trans s3).trans s4
  have hg4:=s04 _ _ hg
  have hR4:=hR.same s04
  refine ⟨_,rfl,nu,_,rfl,.inl (SqL.of hnu4),_,rfl,g,_,rfl,.inl (SqL.of hg4),rfl,decide (ks'.length=rs.length),?_,?_⟩
  ·rw [zx,kg,hal]
   refine congrArg V.bl ?_
   rw [Bool.eq_iff_iff,decide_eq_true_iff,decide_eq_true_iff]
   constructor
   ·intro z;have:=V.int.inj z;lia
   ·intro z;rw [z]
  by_cases hz:ks'.length=rs.length
  ·rw [kf hz]
   refine iteT ⟨_,rfl,q g as H4 s04 (.inl rfl) hg4 ?_⟩
   unfold shM
   rw [kr hz]
   exact hR4
  rw [ke hz]
  refine iteF ⟨_,rfl,_,rfl,nu,g,rfl,⟨_,SqL.of hnu4⟩,⟨_,SqL.of hg4⟩,fun fl hfl=>z2W (K:=K) (a:=nu) (b:=g) (xs:=nv ks') (zs:=as.map V.ref) (by rw [zx,kg];lia)
   (fun i ys σ H5=>(∃a b:Option V,σ=[a,b])∧(∃as',ys=as'.map V.ref∧zp H5 as' ((putN ks' rs).take i)∧as'.length=i)∧Same H4 H5∧H5 fl=some (.lst ys))
   ⟨⟨none,none,rfl⟩,⟨[],rfl,.nil,rfl⟩,zg hfl _,z6⟩ (fun i ys σ H5 _ ⟨_,_,s5,_⟩=>⟨s5.seq (SqL.of hnu4),s5.seq (SqL.of hg4)⟩) ?_ ?_⟩
  ·rintro i x z p ys σ H5 hx hz' ⟨⟨a,b,rfl⟩,⟨as',rfl,hA,hAl⟩,s5,hf5⟩ hp
   have hil:i < ks'.length:=by have:=(kd.mp hx).1;rw [zx] at this;exact this
   rw [jJ hil] at hx
   cases hx
   obtain ⟨t,r,rfl,er,ht⟩:=(hR4.same s5).get hz'
   have s6:=zg hp (.tup [.int ((ks'.getD i 0:Nat):Int),.ref t])
   refine ⟨p,_,rfl,SqT.of z6,rfl,_,_,rfl,_,_,rfl,rfl,?_⟩
   refine jD ?_
   refine ⟨_,rfl,_,rfl,t,_,_,_,rfl,rfl,SqT.of (s6 _ _ ht),zj (j:=2) rfl,by show 3≤sizeLine;decide,fun u hu=>?_⟩
   have s7:=s6.trans (zg hu (.tup [.str "swap",.int ((ks'.getD i 0:Nat):Int),.int r.line]))
   refine ⟨s7 _ _ hf5,?_,ks'.length - (i+1),by rw [zx];lia,by rw [zx],by rw [zx];lia,⟨_,_,rfl⟩,⟨as'++[u],by simp,?_,by rw [kh,hAl];rfl⟩,?_,z6⟩
   ·rw [kg,hAl,sizeLine_eq];lia
   ·have eput:(putN ks' rs)[i]?=some ⟨"swap",.int ((ks'.getD i 0:Nat):Int),r.line⟩:=by
     unfold putN
     rw [List.getElem?_zipWith,er,kE hil,List.getD_eq_getElem?_getD,kE hil]
     rfl
    have hfu:fl≠u:=fun z=>by
     have:=s6 _ _ hf5
     rw [z,hu] at this
     cases this
    rw [qx eput]
    refine zp.append (hA.keep fun c xs e=>?_) (.cons ?_ .nil)
    ·have:c≠fl:=fun z=>by rw [z,hf5] at e;cases e
     rw [zc this]
     exact s7 _ _ e
    ·rw [zc hfu.symm]
     exact z6
   ·exact My.Same.upd (s5.trans s7) hfl _
  ·rintro ys σ H5 ⟨_,⟨as',rfl,hA,hAl⟩,s5,hf5⟩
   refine q fl as' H5 (s04.trans s5) (.inr (s04.free hfl)) hf5 ?_
   unfold shM
   rw [kq hz]
   have:(putN ks' rs).length=ks'.length:=by unfold putN;rw [List.length_zipWith];lia
   rw [zx,List.take_of_length_le (by lia)] at hA
   exact hA
end
noncomputable def goS:Nat→List Nat→List Nat→List Nat
 | 0,_,_=>[]
 | f+1,ls,os=>match nxtS ls os with
  | none=>[]
  | some k=>k :: goS f (exch ls (k - 1)) os
theorem z3s {os:List Nat} {ls ks:List Nat} (h:WayC os ls ks):∀f,ks.length≤f→goS f ls os=ks:=by
 induction h with
 | done h _ _=>
  intro f _
  cases f with
  | zero=>rfl
  | succ f=>unfold goS;rw [h]
 | step h _ _ _ _ t ih=>
  intro f hf
  cases f with
  | zero=>exact absurd hf (by simp)
  | succ f=>
   unfold goS
   rw [h]
   dsimp only
   rw [ih f (by simpa using hf)]
noncomputable def qq (ks:List Nat):List Nat:=goS 100 (List.range 9) (zn (List.range 9) ks)
theorem qG {ks:List Nat} (h:Nums 9 ks) (hl:ks.length≤100):WayC (zn (List.range 9) ks) (List.range 9) (qq ks)∧((qq ks).length:Int)=cost 9 (sw ks)∧Nums 9 (qq ks)∧zn (List.range 9) (qq ks)=zn (List.range 9) ks∧(qq ks).length≤ks.length:=by
 obtain ⟨ks',w1,w2,w3,w4,w5⟩:=QV (n:=9) (by decide) h
 have e:qq ks=ks':=z3s w1 100 (by lia)
 rw [e]
 exact ⟨w1,w2,w3,w4,w5⟩
noncomputable def numR (r:Row):Nat:=match r.arg with
 | .int k=>k.toNat
 | _=>0
noncomputable def shG (rs:List Row):List Row:=shM (qq (rs.map numR)) rs
noncomputable def swL:List Row→List Row→List Row
 | g,[]=>shG g
 | g,r :: rest=>if r.op="swap" then swL (g++[r]) rest else shG g++r :: swL [] rest
theorem qW (g:List Row):swL g []=shG g:=by unfold swL;rfl
theorem qu (g:List Row) (r:Row) (rest:List Row):swL g (r :: rest)=if r.op="swap" then swL (g++[r]) rest else shG g++r :: swL [] rest:=by
 show swL g (r :: rest)=_
 conv=>lhs;unfold swL
def qo (r:Row):Prop:=r.op="swap"→∃k:Nat,r.arg=.int (k:Nat)∧2≤k∧k≤9
theorem z3r:∀{rs:List Row},(∀r∈rs,r.op="swap")→(∀r∈rs,qo r)→Grp9 rs (rs.map numR)
 | [],_,_=>.nil
 | r :: rs,h,g=>by
  obtain ⟨k,e,h2,h9⟩:=g r (kJ ..) (h r (kJ ..))
  have en:numR r=k:=by unfold numR;rw [e];simp
  refine .cons ⟨h r (kJ ..),by rw [en];exact e,by rw [en];exact h2,by rw [en];exact h9⟩ (z3r (fun x hx=>h x (kK _ hx)) fun x hx=>g x (kK _ hx))
theorem z3h {rs:List Row} (h:Grp9 rs (rs.map numR)) (hl:rs.length≤100):(shG rs).length=(qq (rs.map numR)).length∧(shG rs).length≤rs.length:=by
 obtain ⟨_,_,_,_,b⟩:=qG h.nums (by rw [kg];exact hl)
 rw [kg] at b
 unfold shG shM
 by_cases z:(qq (rs.map numR)).length=rs.length
 ·rw [kr z];exact ⟨z.symm,kc _⟩
 ·rw [kq z]
  unfold putN
  rw [List.length_zipWith]
  lia
section
def Zb:Sp:=fun vs H Q _=>∃(l:Addr) (as:List Addr) (rs:List Row),vs=[.ref l]∧H l=some (.lst (as.map V.ref))∧zp H as rs∧Code rs∧(jE rs).isSome=true∧rs.length≤100∧(∀r∈rs,qo r)∧
 ∀d as' H',Same H H'→H d=none→H' d=some (.lst (as'.map V.ref))→zp H' as' (swL [] rs)→Q (.ref d) H'
theorem sc64:zh ["code","found","group","row"] ["code"] (zd (top 64)):=fsM
theorem z56 (D:zo K mg "swapped" (top 64)) (FS:FN P w K mg base 10 "states" ["code"] (Js K)) (FH:FN P w K mg base 3 "shortest" ["group"] QZ):FN P w K mg base 11 "swapped" ["code"] Zb:=by
 refine FN.o D sc64 fun f cdv A outer s H vs Q E hr h=>?_
 obtain ⟨l,as,rs,rfl,hl,hR,hc,hst,hn,hok,q⟩:=h
 have hr3:=hr.mono (show 3≤10 by decide)
 refine ⟨_,zb (zQ (zt FS hr rfl (z0 (pv 0) z7)))
  (zb (zw (i:=1) sc64.nd rfl (Or.inl rfl) (qr z7))
  (zb (zw (i:=2) sc64.nd rfl (Or.inl rfl) (qr z7))
  (zb (jg PassesOwn.never rfl (qd (pv 0)) (zm (i:=3) sc64.nd rfl (Or.inl rfl))
   (ze (qc (zq jV (zC zV (pv 3) zf (fun _ _=>rfl)) zY (zu _))
    (ze (zQ (ZY F.plainAttrs_list F.slot_list_append F.type_list_append qM (pv 2) (z0 (pv 3) z7))))
    (zb (zQ (ZY F.plainAttrs_list F.slot_list_extend F.type_list_extend z1i (pv 1) (z0 (zt FH hr3 rfl (z0 (pv 2) z7)) z7)))
    (zb (zQ (ZY F.plainAttrs_list F.slot_list_append F.type_list_append qM (pv 1) (z0 (pv 3) z7)))
    (ze (zw (i:=2) sc64.nd rfl (Or.inl rfl) (qr z7))))))))
  (ze (zi (zI z1c (pv 1) (zt FH hr3 rfl (z0 (pv 2) z7)))))))),?_⟩
 obtain ⟨fin,hfin⟩:=Option.isSome_iff_exists.mp hst
 have hal:as.length=rs.length:=hR.len
 refine ⟨_,rfl,l,as,rs,fin,rfl,hl,hR,hc,hfin,fun tl fvs H1 s1 _ _ _=>?_⟩
 refine ⟨by show 0≤sizeLine;decide,fun fl hfl=>?_⟩
 have s2:=s1.trans (zg hfl (.lst []))
 refine ⟨by show 0≤sizeLine;decide,fun gl hgl=>?_⟩
 have s23:=zg hgl (.lst [])
 have s3:=s2.trans s23
 have nfg:fl≠gl:=z8 (H:=upd H1 fl (.lst [])) z6 hgl
 have hfl0:H fl=none:=s1.free hfl
 have hgl0:H gl=none:=s2.free hgl
 have short:∀{H2:Hp} {gl:Addr} {gas:List Addr} {gr:List Row} {Q:VK} {E:XK},H2 gl=some (.lst (gas.map V.ref))→zp H2 gas gr→gr.length≤100→Grp9 gr (gr.map numR)→(∀d as' H',Same H2 H'→(d=gl∨H2 d=none)→H' d=some (.lst (as'.map V.ref))→zp H' as' (shG gr)→Q (.ref d) H')→QZ [.ref gl] H2 Q E:=fun h1 h2 h3 h4 h5=>by
  obtain ⟨b1,_,_,_,b5⟩:=qG h4.nums (by rw [kg];exact h3)
  rw [kg] at b5
  exact ⟨_,_,_,_,_,rfl,h1,h2,h3,h4,b1,b5,h5⟩
 refine ⟨_,rfl,l,rfl,⟨_,SqL.of (s3 _ _ hl)⟩,jy (xs:=as.map V.ref) (fun i σ H2=>∃(x:Option V) (gl:Addr) (gas fas:List Addr) (gr fd:List Row),σ=[some (.ref l),some (.ref fl),some (.ref gl),x]∧H2 fl=some (.lst (fas.map V.ref))∧zp H2 fas fd∧H2 gl=some (.lst (gas.map V.ref))∧zp H2 gas gr∧fl≠gl∧H gl=none∧Grp9 gr (gr.map numR)∧fd.length+gr.length≤i∧fd++swL gr (rs.drop i)=swL [] rs∧Same H H2)
  ⟨_,gl,[],[],[],[],rfl,s23 _ _ z6,.nil,z6,.nil,nfg,hgl0,.nil,Nat.zero_le _,by rw [List.drop_zero];rfl,s3⟩ (fun i σ H2 _ ⟨_,_,_,_,_,_,_,_,_,_,_,_,_,_,_,_,sx⟩=>SqL.of (sx _ _ hl)) ?_ ?_⟩
 ·rintro i x σ H2 hi ⟨y,gl,gas,fas,gr,fd,rfl,hf2,hF2,hg2,hG2,nfg,hg0,hgg,hlen,hm,sH⟩
  obtain ⟨a,r,rfl,er,ha⟩:=(hR.same sH).get hi
  have hil:i < rs.length:=(kd.mp er).1
  have hrm:r∈rs:=kA er
  rw [List.drop_eq_getElem_cons hil,(kd.mp er).2] at hm
  rw [qu] at hm
  have hgl2:gas.length=gr.length:=hG2.len
  have hfl2:fas.length=fd.length:=hF2.len
  refine zW ?_
  refine ⟨_,rfl,a,_,_,_,rfl,rfl,SqT.of ha,zj (j:=0) rfl,rfl,decide (r.op="swap"),?_,?_⟩
  ·refine congrArg V.bl ?_
   rw [Bool.eq_iff_iff,decide_eq_true_iff,decide_eq_true_iff]
   exact ⟨V.str.inj,fun z=>by rw [z]⟩
  by_cases ho:r.op="swap"
  ·rw [kf ho]
   rw [kr ho] at hm
   refine iteT ⟨_,rfl,.inl ⟨rfl,_,SqL.of hg2⟩,_,rfl,gl,_,_,rfl,rfl,hg2,?_,?_⟩
   ·rw [kg,hgl2,sizeLine_eq];lia
   have ng:∀b o,H2 b=some o→b≠gl→upd H2 gl (.lst (gas.map V.ref++[.ref a])) b=some o:=fun b o e hb=>by rw [zc hb];exact e
   refine ⟨_,gl,gas++[a],fas,gr++[r],fd,rfl,ng _ _ hf2 nfg,hF2.keep fun c xs e=>ng _ _ e (fun z=>by rw [z,hg2] at e;cases e),by rw [z6,kD];rfl,zp.append (hG2.keep fun c xs e=>ng _ _ e (fun z=>by rw [z,hg2] at e;cases e)) (.cons (ng _ _ ha (fun z=>by rw [z,hg2] at ha;cases ha)) .nil),nfg,hg0,?_,by rw [kh];show fd.length+(gr.length+1)≤i+1;lia,hm,My.Same.upd sH hg0 _⟩
   obtain ⟨k,e,h2,h9⟩:=hok r hrm ho
   have en:numR r=k:=by unfold numR;rw [e];simp
   rw [kD]
   have app:∀{a b:List Row} {c d:List Nat},Grp9 a c→Grp9 b d→Grp9 (a++b) (c++d):=by
    intro a b c d h g
    unfold Grp9 at h g ⊢
    induction h with
    | nil=>exact g
    | cons x _ ih=>exact .cons x ih
   exact app hgg (.cons ⟨ho,by rw [en];exact e,by rw [en];exact h2,by rw [en];exact h9⟩ .nil)
  ·rw [ke ho]
   rw [kq ho] at hm
   refine iteF ⟨_,rfl,.inl ⟨rfl,_,SqL.of hf2⟩,_,rfl,short hg2 hG2 (by lia) hgg fun d as' H3 s3 hd hd3 hA3=>?_⟩
   have hal':as'.length=(shG gr).length:=hA3.len
   have hsl:=(z3h hgg (by lia)).2
   have ndf:d≠fl:=by
    rcases hd with z | z
    ·rw [z];exact nfg.symm
    ·exact (z8 hf2 z).symm
   refine ⟨fl,d,_,_,rfl,rfl,s3 _ _ hf2,hd3,by rw [kg,kg,sizeLine_eq];lia,?_⟩
   have n4:∀b o,H3 b=some o→b≠fl→upd H3 fl (.lst (fas.map V.ref++as'.map V.ref)) b=some o:=fun b o e hb=>by rw [zc hb];exact e
   refine ⟨_,rfl,.inl ⟨rfl,_,SqL.of z6⟩,_,rfl,fl,_,_,rfl,rfl,z6,?_,?_⟩
   ·rw [kh,kg,kg,sizeLine_eq];lia
   refine ⟨by show 0≤sizeLine;decide,fun g2 hg2'=>?_⟩
   have n5:∀b o,H2 b=some o→b≠fl→upd (upd (upd H3 fl (.lst (fas.map V.ref++as'.map V.ref))) fl (.lst (fas.map V.ref++as'.map V.ref++[.ref a]))) g2 (.lst []) b=some o:=fun b o e hb=>by
    have e3:=s3 _ _ e
    have nb:b≠g2:=fun z=>by rw [z] at e3 hb;rw [zc hb,zc hb,e3] at hg2';cases hg2'
    rw [zc nb,zc hb,zc hb]
    exact e3
   have nfg2:fl≠g2:=fun z=>by rw [z,z6] at hg2';cases hg2'
   have n6:∀b o,H3 b=some o→b≠fl→upd (upd (upd H3 fl (.lst (fas.map V.ref++as'.map V.ref))) fl (.lst (fas.map V.ref++as'.map V.ref++[.ref a]))) g2 (.lst []) b=some o:=fun b o e hb=>by
    have nb:b≠g2:=fun z=>by rw [z] at e hb;rw [zc hb,zc hb,e] at hg2';cases hg2'
    rw [zc nb,zc hb,zc hb]
    exact e
   have hf3:=s3 _ _ hf2
   refine ⟨_,g2,[],fas++as'++[a],[],fd++shG gr++[r],rfl,by rw [zc nfg2,z6];simp,zp.append (zp.append (hF2.keep fun c xs e=>n5 _ _ e (fun z=>by rw [z,hf2] at e;cases e)) (hA3.keep fun c xs e=>n6 _ _ e (fun z=>by rw [z,hf3] at e;cases e))) (.cons (n5 _ _ ha (fun z=>by rw [z,hf2] at ha;cases ha)) .nil),z6,.nil,nfg2,?_,.nil,?_,?_,fun b o e=>n5 _ _ (sH _ _ e) (z8 e hfl0)⟩
   ·cases e:H g2 with
    | none=>rfl
    | some o=>
     have e3:=s3 _ _ (sH _ _ e)
     rw [zc nfg2.symm,zc nfg2.symm,e3] at hg2'
     cases hg2'
   ·rw [kh,kh]
    show fd.length+(shG gr).length+1+0≤i+1
    lia
   ·rw [←hm]
    simp
 ·rintro σ H2 ⟨y,gl,gas,fas,gr,fd,rfl,hf2,hF2,hg2,hG2,nfg,hg0,hgg,hlen,hm,sH⟩
  rw [kg,hal] at hlen
  rw [kg,hal,List.drop_length] at hm
  rw [qW] at hm
  have hfl2:fas.length=fd.length:=hF2.len
  refine ⟨_,rfl,_,rfl,short hg2 hG2 (by lia) hgg fun d as' H3 s3 hd hd3 hA3=>?_⟩
  have hal':as'.length=(shG gr).length:=hA3.len
  have hsl:=(z3h hgg (by lia)).2
  refine ⟨fl,d,_,_,rfl,rfl,s3 _ _ hf2,hd3,by rw [kg,kg,sizeLine_eq];lia,fun o ho=>?_⟩
  have s4:=zg ho (.lst (fas.map V.ref++as'.map V.ref))
  have sH4:=(sH.trans s3).trans s4
  refine q o (fas++as') _ sH4 ((sH.trans s3).free ho) (by rw [z6,kD]) ?_
  rw [←hm]
  exact zp.append (hF2.same (s3.trans s4)) (hA3.same s4)
def z3c:Sp:=fun vs H Q _=>∃(l:Addr) (as:List Addr) (rs:List Row),vs=[.ref l]∧H l=some (.lst (as.map V.ref))∧zp H as rs∧Code rs∧(jE rs).isSome=true∧rs.length≤100∧(∀r∈rs,qo r)∧
 ∀H',Same H H'→Q (.bl (decide ((swL [] rs).length=rs.length))) H'
theorem sc65:zh ["code"] ["code"] (zd (top 65)):=fsM
theorem z4b (D:zo K mg "is_swapped" (top 65)) (G:Glo mg) (FW:FN P w K mg base 11 "swapped" ["code"] Zb):FN P w K mg base 12 "is_swapped" ["code"] z3c:=by
 refine FN.o D sc65 fun f cdv A outer s H vs Q E hr h=>?_
 obtain ⟨l,as,rs,rfl,hl,hR,hc,hst,hn,hok,q⟩:=h
 refine ⟨_,ze (zi (qe jV (zl zk rfl G.len zF (z0 (zt FW hr rfl (z0 (pv 0) z7)) z7)) (zl zk rfl G.len zF (z0 (pv 0) z7)) (zu _))),?_⟩
 refine ⟨_,rfl,l,as,rs,rfl,hl,hR,hc,hst,hn,hok,fun d as' H1 s1 hd hd1 hA=>?_⟩
 have h1:as'.length=(swL [] rs).length:=hA.len
 have h2:as.length=rs.length:=hR.len
 refine ⟨d,_,rfl,.inl (SqL.of hd1),_,rfl,l,_,rfl,.inl (SqL.of (s1 _ _ hl)),rfl,?_⟩
 have e:decide (V.int ((as'.map V.ref).length:Nat)=V.int ((as.map V.ref).length:Nat))=decide ((swL [] rs).length=rs.length):=by
  rw [kg,kg,h1,h2,Bool.eq_iff_iff,decide_eq_true_iff,decide_eq_true_iff]
  constructor
  ·intro z;have:=V.int.inj z;lia
  ·intro z;rw [z]
 rw [e]
 exact q H1 s1
end
theorem Qf {α:Type} (xs:List α) (y:α):atI (xs++[y]) (-1)=some y:=by
 unfold atI ixN
 rw [kq (by decide),kr (by rw [kh];show -((xs.length+1:Nat):Int)≤-1;lia)]
 have:(-1+((xs++[y]).length:Int)).toNat=xs.length:=by
  rw [kh]
  show (-1+((xs.length+1:Nat):Int)).toNat=_
  lia
 show (xs++[y])[(-1+((xs++[y]).length:Int)).toNat]?=some y
 rw [this]
 simp
noncomputable def grM:List Nat→List Row→List (List Nat)
 | g,[]=>[g]
 | g,r :: rest=>if r.op="swap" then grM (g++[numR r]) rest else g :: grM [] rest
theorem ji (g:List Nat):grM g []=[g]:=by unfold grM;rfl
theorem qF (g:List Nat) (r:Row) (rest:List Row):grM g (r :: rest)=if r.op="swap" then grM (g++[numR r]) rest else g :: grM [] rest:=by
 conv=>lhs;unfold grM
abbrev zK (H:Hp):List Addr→List (List Nat)→Prop:=Paired fun a ks=>H a=some (.lst (nv ks))
theorem zK.keep {H H':Hp}:∀{as:List Addr} {gs:List (List Nat)},zK H as gs→(∀a∈as,∀o,H a=some o→H' a=some o)→zK H' as gs
 | _,_,.nil,_=>.nil
 | _,_,.cons h t,k=>.cons (k _ (kJ ..) _ h) (zK.keep t fun a ha=>k a (kK _ ha))
theorem zK.app {H:Hp}:∀{as bs:List Addr} {gs ts:List (List Nat)},zK H as gs→zK H bs ts→zK H (as++bs) (gs++ts)
 | _,_,_,_,.nil,h=>h
 | _,_,_,_,.cons a t,h=>.cons a (zK.app t h)
theorem zK.get {H:Hp}:∀{as:List Addr} {gs:List (List Nat)} {i:Nat} {x:V},zK H as gs→(as.map V.ref)[i]?=some x→∃a g,x=.ref a∧gs[i]?=some g∧H a=some (.lst (nv g))
 | _,_,_,_,.nil,e=>by simp at e
 | _,_,0,_,.cons h _,e=>by
  simp at e
  exact ⟨_,_,e.symm,rfl,h⟩
 | _,_,i+1,_,.cons _ t,e=>by
  obtain ⟨a,g,h1,h2,h3⟩:=zK.get (i:=i) t (by simpa using e)
  exact ⟨a,g,h1,by simpa using h2,h3⟩
section
def Ju:Sp:=fun vs H Q _=>∃(l:Addr) (as:List Addr) (rs:List Row),vs=[.ref l]∧H l=some (.lst (as.map V.ref))∧zp H as rs∧rs.length≤100∧(∀r∈rs,qo r)∧
 ∀d gas H',Same H H'→H' d=some (.lst (gas.map V.ref))→zK H' gas (grM [] rs)→Q (.ref d) H'
theorem sc71:zh ["_law_code","_law_found","_law_row"] ["_law_code"] (zd (top 71)):=fsM
theorem z1E (D:zo K mg "_law_groups" (top 71)):FN P w K mg base 1 "_law_groups" ["_law_code"] Ju:=by
 refine FN.o D sc71 fun f cdv A outer s H vs Q E hr h=>?_
 obtain ⟨l,as,rs,rfl,hl,hR,hn,hok,q⟩:=h
 have hal:as.length=rs.length:=hR.len
 refine ⟨_,zb (zw (i:=1) sc71.nd rfl (Or.inl rfl) (qr (z0 (qr z7) z7)))
  (zb (jg PassesOwn.never rfl (qd (pv 0)) (zm (i:=2) sc71.nd rfl (Or.inl rfl))
   (ze (qc (zq jV (zC zV (pv 2) zf (fun _ _=>rfl)) zY (zu _))
    (ze (zQ (ZY F.plainAttrs_list F.slot_list_append F.type_list_append qM (zC zE (pv 1) (z03 ZC zf) (fun _ _=>rfl)) (z0 (zC zV (pv 2) zf (fun _ _=>rfl)) z7))))
    (ze (zQ (ZY F.plainAttrs_list F.slot_list_append F.type_list_append qM (pv 1) (z0 (qr z7) z7)))))))
  (ze (zi (pv 1)))),?_⟩
 refine ⟨by show 0≤sizeLine;decide,fun c hc=>⟨by show 1≤sizeLine;decide,fun fd hfd=>?_⟩⟩
 have s1:=zg hc (.lst [])
 have s12:=zg hfd (.lst [.ref c])
 have s2:=s1.trans s12
 have ncf:c≠fd:=z8 (H:=upd H c (.lst [])) z6 hfd
 have hfd0:H fd=none:=s1.free hfd
 refine ⟨_,rfl,l,rfl,⟨_,SqL.of (s2 _ _ hl)⟩,jy (xs:=as.map V.ref) (fun i σ H2=>∃(x:Option V) (c:Addr) (das:List Addr) (g:List Nat) (dn:List (List Nat)),σ=[some (.ref l),some (.ref fd),x]∧H2 fd=some (.lst ((das++[c]).map V.ref))∧zK H2 das dn∧H2 c=some (.lst (nv g))∧c∉das∧c≠fd∧fd∉das∧H c=none∧dn.length+g.length≤i∧dn++grM g (rs.drop i)=grM [] rs∧Same H H2)
  ⟨_,c,[],[],[],rfl,z6,.nil,s12 _ _ z6,by simp,ncf,by simp,hc,Nat.zero_le _,by rw [List.drop_zero];rfl,s2⟩ (fun i σ H2 _ ⟨_,_,_,_,_,_,_,_,_,_,_,_,_,_,_,sx⟩=>SqL.of (sx _ _ hl)) ?_ ?_⟩
 ·rintro i x σ H2 hi ⟨y,c,das,g,dn,rfl,hf2,hD2,hc2,ncd,ncf,nfd,hc0,hlen,hm,sH⟩
  obtain ⟨a,r,rfl,er,ha⟩:=(hR.same sH).get hi
  have hil:i < rs.length:=(kd.mp er).1
  have hrm:r∈rs:=kA er
  rw [List.drop_eq_getElem_cons hil,(kd.mp er).2,qF] at hm
  have hdl:das.length=dn.length:=Paired.length hD2
  refine zW ?_
  refine ⟨_,rfl,a,_,_,_,rfl,rfl,SqT.of ha,zj (j:=0) rfl,rfl,decide (r.op="swap"),?_,?_⟩
  ·refine congrArg V.bl ?_
   rw [Bool.eq_iff_iff,decide_eq_true_iff,decide_eq_true_iff]
   exact ⟨V.str.inj,fun z=>by rw [z]⟩
  by_cases ho:r.op="swap"
  ·rw [kf ho]
   rw [kr ho] at hm
   obtain ⟨k,e,h2,h9⟩:=hok r hrm ho
   have en:numR r=k:=by unfold numR;rw [e];simp
   have ha':H2 a=some (.tup [.str r.op,.int (k:Nat),.int r.line]):=by rw [←e];exact ha
   refine iteT ⟨_,rfl,_,rfl,fd,_,_,.ref c,rfl,rfl,SqL.of hf2,by rw [kD];exact Qf _ _,.inl ⟨rfl,_,SqL.of hc2⟩,_,rfl,a,_,_,_,rfl,rfl,SqT.of ha',zj (j:=1) rfl,c,_,_,rfl,rfl,hc2,?_,?_⟩
   ·rw [zx,sizeLine_eq];lia
   have ea:nv g++[V.int (k:Nat)]=nv (g++[numR r]):=by rw [JF,en];rfl
   rw [ea]
   refine ⟨_,c,das,g++[numR r],dn,rfl,by rw [zc ncf.symm];exact hf2,hD2.keep fun b hb o e=>by rw [zc (fun z=>ncd (by rw [←z];exact hb))];exact e,z6,ncd,ncf,nfd,hc0,by rw [kh];show dn.length+(g.length+1)≤i+1;lia,hm,My.Same.upd sH hc0 _⟩
  ·rw [ke ho]
   rw [kq ho] at hm
   refine iteF ⟨_,rfl,.inl ⟨rfl,_,SqL.of hf2⟩,by show 0≤sizeLine;decide,fun c2 hc2'=>?_⟩
   have s3:=zg hc2' (.lst [])
   refine ⟨fd,_,_,rfl,rfl,s3 _ _ hf2,?_,?_⟩
   ·rw [kg,kh,sizeLine_eq];show das.length+1 < _;lia
   have nc2:∀b o,H2 b=some o→b≠c2:=fun b o e=>z8 e hc2'
   have nf2:c2≠fd:=(nc2 _ _ hf2).symm
   refine ⟨_,c2,das++[c],[],dn++[g],rfl,by rw [z6];simp,?_,by rw [zc nf2];exact z6,?_,nf2,?_,sH.free hc2',by rw [kh];show dn.length+1+0≤i+1;lia,by rw [←hm];simp,?_⟩
   ·refine zK.app (hD2.keep fun b hb o e=>?_) (.cons ?_ .nil)
    ·rw [zc (fun z=>nfd (by rw [←z];exact hb)),zc (nc2 _ _ e)]
     exact e
    ·rw [zc ncf,zc (nc2 _ _ hc2)]
     exact hc2
   ·intro z
    rcases kL.mp z with z | z
    ·have key:∀{as:List Addr} {gs:List (List Nat)},zK H2 as gs→∀b∈as,∃o,H2 b=some o:=by
      intro as gs h
      induction h with
      | nil=>intro b hb;cases hb
      | cons h _ ih=>
       intro b hb
       rcases kx.mp hb with z | z
       ·subst z;exact ⟨_,h⟩
       ·exact ih b z
     obtain ⟨o,e⟩:=key hD2 _ z
     rw [hc2'] at e
     cases e
    ·have z:c2=c:=by simpa using z
     rw [z,hc2] at hc2'
     cases hc2'
   ·intro z
    rcases kL.mp z with z | z
    ·exact nfd z
    ·exact ncf (show fd=c by simpa using z).symm
   ·intro b o e
    have nb:b≠fd:=z8 e hfd0
    rw [zc nb]
    exact s3 _ _ (sH _ _ e)
 ·rintro σ H2 ⟨y,c,das,g,dn,rfl,hf2,hD2,hc2,ncd,ncf,nfd,hc0,hlen,hm,sH⟩
  rw [kg,hal,List.drop_length,ji] at hm
  refine ⟨_,rfl,q fd (das++[c]) H2 sH hf2 ?_⟩
  rw [←hm]
  exact zK.app hD2 (.cons hc2 .nil)
def ZQ:Sp:=fun vs H Q _=>∃(l:Addr) (ks:List Nat),vs=[.ref l]∧H l=some (.lst (nv ks))∧Nums 9 ks∧ks.length≤100∧∀H',Same H H'→Q (.bl (decide ((qq ks).length=ks.length))) H'
theorem sc72:zh ["_law_many","_law_now","_law_n","_law_top"] ["_law_many"] (zd (top 72)):=fsM
theorem z1C (D:zo K mg "_law_short" (top 72)) (G:Glo mg) (FW:FN P w K mg base 3 "fewest_swaps" ["order"] z4z):FN P w K mg base 4 "_law_short" ["_law_many"] ZQ:=by
 refine FN.o D sc72 fun f cdv A outer s H vs Q E hr h=>?_
 obtain ⟨l,ks,rfl,hl,hk,hn,q⟩:=h
 have hu:(A.deeper (envOfC "_law_short" (zd (top 72)) s.heap.objs.size f cdv)).units < cLine:=hr.units0
 obtain ⟨_,b2,_,_,b5⟩:=qG hk hn
 refine ⟨_,zb (qc (zq (z3n hu) (pv 0) (qr z7) (zu _)) (ze (zi jI)) zA)
  (zb (zw (i:=1) sc72.nd rfl (Or.inl rfl) (jc rfl rfl G.list rfl G.range (z0 (zl (z1Y rfl) rfl G.max JV (z0 (pv 0) z7)) z7)))
  (zb (jg PassesOwn.never rfl (qd (pv 0)) (zm (i:=2) sc72.nd rfl (Or.inl rfl))
   (zb (zw (i:=3) sc72.nd rfl (Or.inl rfl) (zC zE (pv 1) zf (fun _ _=>rfl)))
   (zb (j3 (zC zE (pv 1) (zI Zj (pv 2) zf) (fun _ _=>rfl)) (jM (pv 1) zf qD))
   (ze (j3 (pv 3) (jM (pv 1) (zI Zj (pv 2) zf) qD))))))
  (ze (zi (qe jV (zl zk rfl G.len zF (z0 (zt FW hr rfl (z0 (pv 1) z7)) z7)) (zl zk rfl G.len zF (z0 (pv 0) z7)) (zu _)))))),?_⟩
 refine ⟨_,rfl,by show 0≤sizeLine;decide,fun e0 he0=>?_⟩
 have s1:=zg he0 (.lst [])
 refine ⟨l,e0,nv ks,rfl,rfl,SqL.of (s1 _ _ hl),SqL.of z6,decide (nv ks=[]),rfl,?_⟩
 by_cases hz:ks=[]
 ·subst hz
  have:(qq []).length=([]:List Nat).length:=Nat.le_zero.mp b5
  rw [kf this] at q
  exact iteT (q _ s1)
 have hz':nv ks≠[]:=fun z=>hz (List.length_eq_zero_iff.mp (by rw [←zx,z];rfl))
 rw [ke hz']
 have hpos:0 < ks.length:=List.length_pos_iff.mpr hz
 refine iteF ⟨_,rfl,l,iv ks,rfl,SqL.of (s1 _ _ hl),by rw [JK];exact hpos,fun M hM hle=>?_⟩
 have hM':∃m:Nat,M=(m:Nat)∧m∈ks:=by
  unfold iv at hM
  obtain ⟨m,h1,h2⟩:=kY.mp hM
  exact ⟨m,h2.symm,h1⟩
 obtain ⟨m,rfl,hm⟩:=hM'
 have hm9:=hk m hm
 have hkm:Nums m ks:=fun k hk'=>⟨(hk k hk').1,by
  have:=hle (k:Int) (by unfold iv;exact kY.mpr ⟨k,hk',rfl⟩)
  lia⟩
 refine ⟨m,rfl,by lia,fun d hd=>?_⟩
 have s2:=s1.trans (zg hd (.lst (nv (List.range m))))
 have hd0:H d=none:=s1.free hd
 refine ⟨_,rfl,l,rfl,⟨_,SqL.of (s2 _ _ hl)⟩,jy (xs:=nv ks) (fun i σ H2=>∃(x y:Option V),σ=[some (.ref l),some (.ref d),x,y]∧H2 d=some (.lst (nv (zn (List.range m) (ks.take i))))∧Same H H2)
  ⟨_,_,rfl,by rw [List.take_zero];exact z6,s2⟩ (fun i σ H2 _ ⟨_,_,_,_,s3⟩=>SqL.of (s3 _ _ hl)) ?_ ?_⟩
 ·rintro i x σ H2 hi ⟨y,z,rfl,hd2,sH⟩
  have hil:i < ks.length:=by have:=(kd.mp hi).1;rw [zx] at this;exact this
  rw [jJ hil] at hi
  cases hi
  have hki:=hkm (ks.getD i 0) (by rw [List.getD_eq_getElem?_getD,kE hil];exact List.getElem_mem _)
  have hal:(zn (List.range m) (ks.take i)).length=m:=by rw [zZ,List.length_range]
  have e1:((ks.getD i 0:Nat):Int) - 1=((ks.getD i 0 - 1:Nat):Int):=by lia
  have hk1:ks.getD i 0 - 1 < (zn (List.range m) (ks.take i)).length:=by lia
  refine zW ?_
  refine ⟨_,rfl,d,_,_,_,rfl,rfl,SqL.of hd2,zj (j:=0) (jJ (by lia)),?_⟩
  refine ⟨_,rfl,_,rfl,_,_,rfl,rfl,d,_,_,_,rfl,rfl,SqL.of hd2,by rw [e1];exact zj (jJ hk1),?_⟩
  refine ⟨_,rfl,d,_,_,0,rfl,rfl,hd2,by rw [zx];exact Q7 (n:=(zn (List.range m) (ks.take i)).length) (j:=0) (by lia),?_⟩
  rw [JE]
  refine ⟨_,rfl,_,rfl,_,rfl,_,_,rfl,rfl,d,_,_,ks.getD i 0 - 1,rfl,rfl,z6,by rw [zx,List.length_set,e1];exact Q7 hk1,?_⟩
  rw [JE]
  refine ⟨_,_,rfl,?_,My.Same.upd (My.Same.upd sH hd0 _) hd0 _⟩
  rw [jC hil,jL]
  exact z6
 ·rintro σ H2 ⟨y,z,rfl,hd2,sH⟩
  rw [zx,List.take_length] at hd2
  obtain ⟨ks'',w1,w2,w3,w4,w5⟩:=QV (n:=m) (by lia) hkm
  have hlm:(zn (List.range m) ks).length=m:=by rw [zZ,List.length_range]
  have hc:cost 9 (sw ks)=cost m (sw ks):=z3I (by lia) hkm hm9.2
  refine ⟨_,rfl,d,zn (List.range m) ks,ks'',rfl,hd2,by lia,by lia,by rw [hlm];exact ZM ks _ (by rw [List.length_range];exact hkm),by rw [hlm];exact w1,by lia,fun nu H3 s3 hnu hnu3=>?_⟩
  refine ⟨nu,_,rfl,.inl (SqL.of hnu3),_,rfl,l,_,rfl,.inl (SqL.of (s3 _ _ (sH _ _ hl))),rfl,?_⟩
  have e:decide (V.int ((nv ks'').length:Nat)=V.int ((nv ks).length:Nat))=decide ((qq ks).length=ks.length):=by
   rw [zx,zx,Bool.eq_iff_iff,decide_eq_true_iff,decide_eq_true_iff]
   constructor
   ·intro z;have:=V.int.inj z;lia
   ·intro z
    congr 1
    lia
  rw [e]
  exact q H3 (sH.trans s3)
end
theorem Zq {l t:List Nat} {i:Nat} (h:i < l.length):(l++t).getD i 0=l.getD i 0:=by
 rw [List.getD_eq_getElem?_getD,List.getD_eq_getElem?_getD,kZ h]
theorem z3t {l t:List Nat} {i:Nat} (h:l.length≤i):(l++t).getD i 0=t.getD (i - l.length) 0:=by
 rw [List.getD_eq_getElem?_getD,List.getD_eq_getElem?_getD,ya h]
theorem Zs {p:Nat→Bool} {n:Nat} (h:∀i,n≤i→p i=false):∀m,(List.range (n+m)).filter p=(List.range n).filter p
 | 0=>rfl
 | m+1=>by
  rw [←Nat.add_assoc,List.range_succ,List.filter_append,Zs h m,List.filter_cons,kq (by rw [h _ (by lia)];exact ka)]
  exact kN _
theorem Jj {p q:Nat→Bool} {n:Nat} (h:∀i,i < n→p i=q i):(List.range n).filter p=(List.range n).filter q:=
 List.filter_congr fun i hi=>h i (List.mem_range.mp hi)
theorem z3Y {l:List Nat} {x:Nat} (h:x∈l):l[l.idxOf x]?=some x:=by
 have hi:=List.idxOf_lt_length_of_mem h
 rw [kE hi,List.getElem_idxOf hi]
theorem z1e {ls os t:List Nat} (hl:ls.length=os.length) (h1:1≤os.length) (hm:ls.getD 0 0∈os):nxtS (ls++t) (os++t)=nxtS ls os:=by
 have e1:(ls++t).getD 0 0=ls.getD 0 0:=Zq (by lia)
 have e2:(os++t).getD 0 0=os.getD 0 0:=Zq (by lia)
 have e3:(List.range (os++t).length).filter (fun i=>decide ((ls++t).getD i 0≠(os++t).getD i 0))=(List.range os.length).filter (fun i=>decide (ls.getD i 0≠os.getD i 0)):=by
  rw [kh,Zs (fun i hi=>?_),Jj fun i hi=>?_]
  ·rw [Zq (by lia),Zq hi]
  ·rw [z3t (by lia),z3t hi,hl]
   simp
 have e4:(os++t).idxOf (ls.getD 0 0)=os.idxOf (ls.getD 0 0):=by
  have hi:=List.idxOf_lt_length_of_mem hm
  refine z1u _ _ _ ?_ fun j hj z=>?_
  ·rw [kZ hi]
   exact z3Y hm
  ·rw [kZ (by lia)] at z
   exact Jd os _ j hj z
 unfold nxtS
 rw [e1,e2,e3,e4]
theorem JN {l t:List Nat} {k:Nat} (hk:k < l.length):exch (l++t) k=exch l k++t:=by
 unfold exch
 rw [Zq hk,Zq (show 0 < l.length by lia),List.set_append_left (h:=by lia),List.set_append_left (h:=by rw [List.length_set];exact hk)]
theorem QT:∀(ks l t:List Nat),Nums l.length ks→zn (l++t) ks=zn l ks++t
 | [],_,_,_=>rfl
 | k :: ks,l,t,h=>by
  obtain ⟨h1,h2⟩:=h.hd
  show zn (exch (l++t) (k - 1)) ks=zn (exch l (k - 1)) ks++t
  rw [JN (by lia),QT ks _ t (by rw [qO];exact h.tl)]
theorem z3C {os ls ks t:List Nat} (h1:1≤os.length) (w:WayC os ls ks):WayC (os++t) (ls++t) ks:=by
 have mem:∀{ls:List Nat},ls.length=os.length→ls.getD 0 0∈os→(ls++t).getD 0 0∈os++t:=fun hl hm=>by
  rw [Zq (by lia)]
  exact kH _ hm
 induction w with
 | done h hl hm=>exact .done (by rw [z1e hl h1 hm];exact h) (by rw [kh,kh,hl]) (mem hl hm)
 | @step ls ks k h hl hm h2 hk _ ih=>
  refine .step (by rw [z1e hl h1 hm];exact h) (by rw [kh,kh,hl]) (mem hl hm) h2 (by rw [kh];lia) ?_
  rw [JN (by lia)]
  exact ih
theorem z21 {m:Nat} {ks:List Nat} (h:Nums m ks) (hm:1≤m) (h9:m≤9) (hl:ks.length≤100):Nums m (qq ks):=by
 obtain ⟨ks'',w1,w2,w3,w4,w5⟩:=QV hm h
 have er:List.range 9=List.range m++(List.range 9).drop m:=by
  have:(List.range 9).take m=List.range m:=by rw [List.take_range,Nat.min_eq_left h9]
  conv=>lhs;rw [←List.take_append_drop m (List.range 9),this]
 have hlm:(List.range m).length=m:=List.length_range
 have ea:zn (List.range 9) ks=zn (List.range m) ks++(List.range 9).drop m:=by
  conv=>lhs;rw [er]
  exact QT ks _ _ (by rw [hlm];exact h)
 have w:WayC (zn (List.range 9) ks) (List.range 9) ks'':=by
  rw [ea]
  conv=>arg 2;rw [er]
  exact z3C (by rw [zZ,hlm];exact hm) w1
 have e:qq ks=ks'':=z3s w 100 (by lia)
 rw [e]
 exact w3
noncomputable def nb (ks:List Nat):List Nat:=if (qq ks).length=ks.length then ks else qq ks
theorem JI {ks:List Nat} (h:Nums 9 ks) (hl:ks.length≤100):(nb ks).length=(qq ks).length∧(nb ks).length≤ks.length:=by
 obtain ⟨_,_,_,_,b⟩:=qG h hl
 unfold nb
 by_cases z:(qq ks).length=ks.length
 ·rw [kr z];exact ⟨z.symm,kc _⟩
 ·rw [kq z];exact ⟨rfl,b⟩
theorem z2q {ks:List Nat} (h:Nums 9 ks) (hl:ks.length≤100):(qq (nb ks)).length=(nb ks).length:=by
 unfold nb
 by_cases z:(qq ks).length=ks.length
 ·rw [kr z];exact z
 ·rw [kq z]
  obtain ⟨_,b2,b3,b4,b5⟩:=qG h hl
  obtain ⟨_,c2,_,_,_⟩:=qG b3 (by lia)
  have:cost 9 (sw (qq ks))=cost 9 (sw ks):=jf fun i _=>z5s b3 h b4 i
  lia
set_option maxHeartbeats 4000000
def AllS (g:List Row):Prop:=∀r∈g,r.op="swap"
theorem AllS.nil:AllS []:=fun _ h=>by cases h
theorem AllS.app {a b:List Row} (h:AllS a) (g:AllS b):AllS (a++b):=fun r hr=>(kL.mp hr).elim (h r) (g r)
theorem AllS.one {r:Row} (h:r.op="swap"):AllS [r]:=fun x hx=>by rw [kj.mp hx];exact h
theorem z0U:∀(ks:List Nat) (rs:List Row),ks.length≤rs.length→(putN ks rs).map numR=ks
 | [],_,_=>by unfold putN;rfl
 | _ :: _,[],h=>by simp at h
 | k :: ks,r :: rs,h=>by
  show numR ⟨"swap",.int (k:Nat),r.line⟩ :: (putN ks rs).map numR=k :: ks
  rw [z0U ks rs (by simpa using h)]
  congr 1
theorem z0W:∀(ks:List Nat) (rs:List Row),AllS (putN ks rs)
 | [],_=>AllS.nil
 | _ :: _,[]=>AllS.nil
 | k :: ks,r :: rs=>by
  intro x hx
  have hx:x∈(⟨"swap",.int (k:Nat),r.line⟩:Row) :: putN ks rs:=hx
  rcases kx.mp hx with z | z
  ·rw [z]
  ·exact z0W ks rs x z
theorem z2C {g:List Row} (h:AllS g) (ok:∀r∈g,qo r):Nums 9 (g.map numR):=(z3r h ok).nums
theorem Jw {g:List Row} (h:AllS g):AllS (shG g):=by
 unfold shG shM
 split
 ·exact h
 ·exact z0W _ _
theorem Jv {g:List Row} (h:AllS g) (ok:∀r∈g,qo r) (hl:g.length≤100):(shG g).map numR=nb (g.map numR):=by
 obtain ⟨_,_,_,_,b⟩:=qG (z2C h ok) (by rw [kg];exact hl)
 unfold shG shM nb
 rw [kg] at b ⊢
 by_cases z:(qq (g.map numR)).length=g.length
 ·rw [kr z,kr z]
 ·rw [kq z,kq z,z0U _ _ b]
theorem Je:∀(a b:List Row) (g:List Nat),AllS a→grM g (a++b)=grM (g++a.map numR) b
 | [],b,g,_=>by simp
 | r :: a,b,g,h=>by
  rw [List.cons_append,qF,kr (h r (kJ ..)),Je a b _ fun x hx=>h x (kK _ hx)]
  simp
theorem z40:∀(rs g:List Row),AllS g→(∀r∈g++rs,qo r)→(g++rs).length≤100→grM [] (swL g rs)=(grM (g.map numR) rs).map nb
 | [],g,h,ok,hl=>by
  rw [kN] at ok hl
  rw [qW,ji]
  have:=Je (shG g) [] [] (Jw h)
  rw [kN,List.nil_append,ji,Jv h ok hl] at this
  exact this
 | r :: rs,g,h,ok,hl=>by
  have okg:∀x∈g,qo x:=fun x hx=>ok x (kH _ hx)
  have okr:∀x∈rs,qo x:=fun x hx=>ok x (kG _ (kK _ hx))
  rw [kh,kI] at hl
  rw [qu,qF]
  by_cases ho:r.op="swap"
  ·rw [kr ho,kr ho,z40 rs (g++[r]) (h.app (AllS.one ho)) (by rw [kO];exact ok) (by simp;lia),kD]
   rfl
  ·rw [kq ho,kq ho,Je _ _ _ (Jw h),List.nil_append,qF,kq ho,Jv h okg (by lia),kM,z40 rs [] AllS.nil (by rw [List.nil_append];exact okr) (by simp;lia)]
   rfl
theorem z0f:∀(rs:List Row) (g:List Nat) (B:Nat),Nums 9 g→(∀r∈rs,qo r)→g.length+rs.length≤B→∀ks∈grM g rs,Nums 9 ks∧ks.length≤B
 | [],g,B,hg,_,hB,ks,hk=>by
  rw [ji,kj] at hk
  subst hk
  exact ⟨hg,by simpa using hB⟩
 | r :: rs,g,B,hg,ok,hB,ks,hk=>by
  have okr:∀x∈rs,qo x:=fun x hx=>ok x (kK _ hx)
  rw [kI] at hB
  rw [qF] at hk
  by_cases ho:r.op="swap"
  ·rw [kr ho] at hk
   obtain ⟨k,e,h2,h9⟩:=ok r (kJ ..) ho
   have en:numR r=k:=by unfold numR;rw [e];simp
   refine z0f rs (g++[numR r]) B (fun x hx=>?_) okr (by rw [kh];show g.length+1+_≤_;lia) ks hk
   rcases kL.mp hx with z | z
   ·exact hg x z
   ·rw [kj.mp z,en];exact ⟨h2,h9⟩
  ·rw [kq ho] at hk
   rcases kx.mp hk with z | z
   ·subst z;exact ⟨hg,by lia⟩
   ·exact z0f rs [] B (fun _ h=>by cases h) okr (by show 0+rs.length≤B;lia) ks z
theorem JJ:∀(rs g:List Row),AllS g→(∀r∈g++rs,qo r)→(g++rs).length≤100→(swL g rs).length+((grM (g.map numR) rs).map List.length).sum=g.length+rs.length+((grM (g.map numR) rs).map fun ks=>(nb ks).length).sum
 | [],g,h,ok,hl=>by
  rw [kN] at ok hl
  rw [qW,ji]
  have:=congrArg List.length (Jv h ok hl)
  rw [kg] at this
  simp only [kM,List.map_nil,List.sum_cons,List.sum_nil,kg,List.length_nil]
  lia
 | r :: rs,g,h,ok,hl=>by
  have okg:∀x∈g,qo x:=fun x hx=>ok x (kH _ hx)
  have okr:∀x∈rs,qo x:=fun x hx=>ok x (kG _ (kK _ hx))
  rw [kh,kI] at hl
  rw [qu,qF]
  by_cases ho:r.op="swap"
  ·rw [kr ho,kr ho]
   have:=JJ rs (g++[r]) (h.app (AllS.one ho)) (by rw [kO];exact ok) (by simp;lia)
   rw [kD] at this
   have this:(swL (g++[r]) rs).length+((grM (g.map numR++[numR r]) rs).map List.length).sum=(g++[r]).length+rs.length+((grM (g.map numR++[numR r]) rs).map fun ks=>(nb ks).length).sum:=this
   rw [kh] at this
   rw [kI]
   have e:[r].length=1:=rfl
   lia
  ·rw [kq ho,kq ho]
   have a:=congrArg List.length (Jv h okg (by lia))
   rw [kg] at a
   have b:=JJ rs [] AllS.nil (by rw [List.nil_append];exact okr) (by simp;lia)
   simp only [kM,List.sum_cons,kh,kI,kg,List.map_nil,List.length_nil] at b ⊢
   lia
theorem z0C {f g:List Nat→Nat}:∀{l:List (List Nat)},(∀x∈l,f x≤g x)→(l.map f).sum≤(l.map g).sum
 | [],_=>kc _
 | x :: l,h=>by
  have:=z0C (l:=l) fun y hy=>h y (kK _ hy)
  have:=h x (kJ ..)
  simp only [kM,List.sum_cons]
  lia
theorem z39 {f g:List Nat→Nat}:∀{l:List (List Nat)},(∀x∈l,f x≤g x)→((l.map f).sum=(l.map g).sum↔∀x∈l,f x=g x)
 | [],_=>⟨(fun _ x h=>by cases h),fun _=>rfl⟩
 | x :: l,h=>by
  have h':∀y∈l,f y≤g y:=fun y hy=>h y (kK _ hy)
  have a:=z0C h'
  have b:=h x (kJ ..)
  have ih:=z39 h'
  simp only [kM,List.sum_cons]
  constructor
  ·intro e y hy
   rcases kx.mp hy with z | z
   ·subst z;lia
   ·exact ih.mp (by lia) y z
  ·intro e
   have:=ih.mpr fun y hy=>e y (kK _ hy)
   have:=e x (kJ ..)
   lia
noncomputable def qQ (ks:List Nat):Bool:=decide ((qq ks).length=ks.length)
theorem z51 {rs:List Row} (ok:∀r∈rs,qo r) (hl:rs.length≤100):decide ((swL [] rs).length=rs.length)=(grM [] rs).all qQ:=by
 have a:=JJ rs [] AllS.nil (by rw [List.nil_append];exact ok) (by simpa using hl)
 have g:=z0f rs [] 100 (fun _ h=>by cases h) ok (by simpa using hl)
 have s:=z39 (f:=fun ks=>(nb ks).length) (g:=List.length) (l:=grM [] rs) fun ks hk=>(JI (g ks hk).1 (g ks hk).2).2
 have a:(swL [] rs).length+((grM [] rs).map List.length).sum=0+rs.length+((grM [] rs).map fun ks=>(nb ks).length).sum:=a
 rw [Bool.eq_iff_iff,decide_eq_true_iff,List.all_eq_true]
 constructor
 ·intro e ks hk
  have:=(s.mp (by lia)) ks hk
  have n:=JI (g ks hk).1 (g ks hk).2
  exact kf (by lia)
 ·intro e
  have:=s.mpr fun ks hk=>by
   have n:=JI (g ks hk).1 (g ks hk).2
   have:=kw (e ks hk)
   lia
  lia
theorem QW:∀(rs g:List Row),(∀ks∈grM (g.map numR) rs,qQ ks=true)→swL g rs=g++rs
 | [],g,h=>by
  have:=kw (h _ (by rw [ji];exact kj.mpr rfl))
  rw [kg] at this
  rw [qW,kN]
  unfold shG shM
  rw [kr this]
 | r :: rs,g,h=>by
  rw [qu]
  rw [qF] at h
  by_cases ho:r.op="swap"
  ·rw [kr ho] at h ⊢
   rw [QW rs (g++[r]) (by rw [kD];exact h)]
   simp
  ·rw [kq ho] at h ⊢
   have:=kw (h _ (kJ ..))
   rw [kg] at this
   rw [QW rs [] fun ks hk=>h ks (kK _ hk)]
   unfold shG shM
   rw [kr this]
   rfl
noncomputable def nsB (r:Row):Bool:= !decide (r.op="swap")
theorem z3o {g:List Row} (h:AllS g):g.filter nsB=[]:=List.filter_eq_nil_iff.mpr fun r hr=>by unfold nsB;rw [kf (h r hr)];exact ka
theorem z3H:∀(rs g:List Row),AllS g→(swL g rs).filter nsB=rs.filter nsB
 | [],g,h=>by rw [qW,z3o (Jw h)];rfl
 | r :: rs,g,h=>by
  rw [qu]
  by_cases ho:r.op="swap"
  ·rw [kr ho,z3H rs (g++[r]) (h.app (AllS.one ho)),List.filter_cons,kq (by unfold nsB;rw [kf ho];exact ka)]
  ·rw [kq ho,List.filter_append,z3o (Jw h),List.filter_cons,List.filter_cons,z3H rs [] AllS.nil]
   rfl
inductive Go:Int→List Row→Int→Prop
 | nil (d:Int):Go d [] d
 | push {d d':Int} {l:List Row} {j ln:Int} (h0:0≤d) (hj:0≤j∧j≤9) (hl:0≤ln∧ln≤9999) (t:Go (d+1) l d'):Go d (⟨"push",.int j,ln⟩ :: l) d'
 | swap {d d':Int} {l:List Row} {k:Nat} {ln:Int} (h2:2≤k) (h9:k≤9) (hk:(k:Int)≤d) (hl:0≤ln∧ln≤9999) (t:Go d l d'):Go d (⟨"swap",.int (k:Nat),ln⟩ :: l) d'
 | tell {d d':Int} {l:List Row} {ln:Int} (h:1≤d) (hl:0≤ln∧ln≤9999) (t:Go (d - 1) l d'):Go d (⟨"tell",.non,ln⟩ :: l) d'
theorem Go.app {d d1 d2:Int} {a b:List Row} (h:Go d a d1) (g:Go d1 b d2):Go d (a++b) d2:=by
 induction h with
 | nil d=>exact g
 | push h0 hj hl t ih=>exact .push h0 hj hl (ih g)
 | swap h2 h9 hk hl t ih=>exact .swap h2 h9 hk hl (ih g)
 | tell h hl t ih=>exact .tell h hl (ih g)
theorem Go.split:∀{a b:List Row} {d d2:Int},Go d (a++b) d2→∃d1,Go d a d1∧Go d1 b d2
 | [],b,d,d2,h=>⟨d,.nil d,h⟩
 | r :: a,b,d,d2,h=>by
  cases h with
  | push h0 hj hl t=>
   obtain ⟨d1,h1,h2⟩:=Go.split t
   exact ⟨d1,.push h0 hj hl h1,h2⟩
  | swap h2 h9 hk hl t=>
   obtain ⟨d1,h1,h2'⟩:=Go.split t
   exact ⟨d1,.swap h2 h9 hk hl h1,h2'⟩
  | tell h hl t=>
   obtain ⟨d1,h1,h2⟩:=Go.split t
   exact ⟨d1,.tell h hl h1,h2⟩
def SwR (d:Int) (r:Row):Prop:=∃(k:Nat) (ln:Int),r=⟨"swap",.int (k:Nat),ln⟩∧2≤k∧k≤9∧(k:Int)≤d∧0≤ln∧ln≤9999
theorem JC:("push":Str)≠"swap"∧("tell":Str)≠"swap":=by trivial
theorem Go.swaps:∀{g:List Row} {d d1:Int},AllS g→Go d g d1→d1=d∧∀r∈g,SwR d r
 | [],d,d1,_,h=>by cases h;exact ⟨rfl,fun _ h=>by cases h⟩
 | r :: g,d,d1,h,t=>by
  have h0:=h r (kJ ..)
  have hg:AllS g:=fun x hx=>h x (kK _ hx)
  cases t with
  | push _ _ _ _=>exact absurd h0 JC.1
  | tell _ _ _=>exact absurd h0 JC.2
  | swap h2 h9 hk hl t=>
   obtain ⟨e,f⟩:=Go.swaps hg t
   refine ⟨e,fun x hx=>?_⟩
   rcases kx.mp hx with z | z
   ·subst z;exact ⟨_,_,rfl,h2,h9,hk,hl⟩
   ·exact f x z
theorem z1x:∀{g:List Row} {d:Int},(∀r∈g,SwR d r)→Go d g d
 | [],d,_=>.nil d
 | r :: g,d,h=>by
  obtain ⟨k,ln,e,h2,h9,hk,hl⟩:=h r (kJ ..)
  subst e
  exact .swap h2 h9 hk hl (z1x fun x hx=>h x (kK _ hx))
theorem Go.okS {d d':Int} {l:List Row} (h:Go d l d'):∀r∈l,qo r:=by
 induction h with
 | nil d=>intro r hr;cases hr
 | push _ _ _ _ ih=>
  intro r hr
  rcases kx.mp hr with z | z
  ·subst z;exact fun z=>absurd z JC.1
  ·exact ih r z
 | swap h2 h9 _ _ _ ih=>
  intro r hr
  rcases kx.mp hr with z | z
  ·subst z;exact fun _=>⟨_,rfl,h2,h9⟩
  ·exact ih r z
 | tell _ _ _ ih=>
  intro r hr
  rcases kx.mp hr with z | z
  ·subst z;exact fun z=>absurd z JC.2
  ·exact ih r z
theorem z0V:∀(ks:List Nat) (rs:List Row) (r:Row),r∈putN ks rs→∃k∈ks,∃x∈rs,r=⟨"swap",.int (k:Nat),x.line⟩
 | [],_,_,h=>by cases h
 | _ :: _,[],_,h=>by cases h
 | k :: ks,x :: rs,r,h=>by
  have h:r∈(⟨"swap",.int (k:Nat),x.line⟩:Row) :: putN ks rs:=h
  rcases kx.mp h with z | z
  ·exact ⟨k,kJ ..,x,kJ ..,z⟩
  ·obtain ⟨k',h1,x',h2,e⟩:=z0V ks rs r z
   exact ⟨k',kK _ h1,x',kK _ h2,e⟩
theorem z52 {g:List Row} {d:Int} (h:AllS g) (t:Go d g d) (hl:g.length≤100):Go d (shG g) d:=by
 obtain ⟨_,f⟩:=Go.swaps h t
 refine z1x fun r hr=>?_
 unfold shG shM at hr
 by_cases z:(qq (g.map numR)).length=g.length
 ·rw [kr z] at hr
  exact f r hr
 ·rw [kq z] at hr
  obtain ⟨k,hk,x,hx,e⟩:=z0V _ _ _ hr
  obtain ⟨k0,ln,ex,a1,a2,a3,a4,a5⟩:=f x hx
  have d2:2≤d:=by lia
  have nums:Nums (min d.toNat 9) (g.map numR):=fun y hy=>by
   obtain ⟨x',hx',ey⟩:=kY.mp hy
   obtain ⟨k1,ln1,ex1,b1,b2,b3,_⟩:=f x' hx'
   have:y=k1:=by rw [←ey,ex1];unfold numR;simp
   lia
  have:=z21 nums (by lia) (by lia) (by rw [kg];exact hl) k hk
  exact ⟨k,x.line,e,this.1,by lia,by lia,by rw [ex];exact ⟨a4,a5⟩⟩
theorem z41:∀(rs g:List Row) (d d':Int),AllS g→Go d (g++rs) d'→(g++rs).length≤100→Go d (swL g rs) d'
 | [],g,d,d',h,t,hl=>by
  rw [kN] at t hl
  obtain ⟨e,_⟩:=Go.swaps h t
  subst e
  rw [qW]
  exact z52 h t hl
 | r :: rs,g,d,d',h,t,hl=>by
  rw [qu]
  by_cases ho:r.op="swap"
  ·rw [kr ho]
   exact z41 rs (g++[r]) d d' (h.app (AllS.one ho)) (by rw [kO];exact t) (by rw [kO];exact hl)
  ·rw [kq ho]
   obtain ⟨d1,t1,t2⟩:=Go.split t
   obtain ⟨e,_⟩:=Go.swaps h t1
   subst e
   rw [kh,kI] at hl
   refine (z52 h t1 (by lia)).app ?_
   have sub:∀{d2:Int},Go d2 rs d'→Go d2 (swL [] rs) d':=fun t3=>z41 rs [] _ d' AllS.nil t3 (by simp;lia)
   cases t2 with
   | push h0 hj hl t=>exact .push h0 hj hl (sub t)
   | swap _ _ _ _ _=>exact absurd rfl ho
   | tell h hl t=>exact .tell h hl (sub t)
def Γ0:Int→Option Sta:=fun _=>none
structure Pl3 (op:Str):Prop where
 lab:op≠"label"
 et:op≠"endtry"
 jump:inT op jumping=false
 gput:tabI zT op=0
theorem JS {r:Row} (h:Pl3 r.op) {d:Int} (hd:qH r≤d) (l:List Row):chk Γ0 (r :: l) (some (d,[]))=chk Γ0 l (if inT r.op zO=true then none else some (zM r d,[])):=by
 have ok:j7 r (d,[])=true:=by
  unfold j7 ZA jk
  simp only [List.getLast?_nil,Option.isNone_none,Bool.and_true,Bool.not_false,List.length_nil]
  rw [ke h.et,ke (show ¬d < qH r by lia)]
  rfl
 have tg:tgts r (d,[])=[]:=by
  unfold tgts
  rw [h.jump,kq ka]
  simp only [List.getLast?_nil,List.nil_append]
  split <;> rfl
 have nx:Zz r (d,[])=if inT r.op zO=true then none else some (zM r d,[]):=by
  have e:ql r d [] (tabI zT r.op)=[]:=by
   unfold ql
   rw [h.gput,kq (show ¬((0:Int)=1) by decide),kq (show ¬((0:Int)= -1) by decide)]
  unfold Zz
  show (if inT r.op zO=true then none else some (zM r d,ql r d [] (tabI zT r.op)))=_
  rw [e]
 rw [z2X,kq h.lab]
 show (if j7 r (d,[])=true∧(tgts r (d,[])).all (fun t=>decide (Γ0 t.1=some t.2))=true then chk Γ0 l (Zz r (d,[])) else none)=_
 rw [kr ⟨ok,by rw [tg];rfl⟩,nx]
theorem z12:Pl3 "push":=⟨by trivial,by trivial,by trivial,by trivial⟩
theorem z11:Pl3 "swap":=⟨by trivial,by trivial,by trivial,by trivial⟩
theorem z10:Pl3 "tell":=⟨by trivial,by trivial,by trivial,by trivial⟩
theorem z3k:Pl3 "return":=⟨by trivial,by trivial,by trivial,by trivial⟩
theorem z4n:tabI qt "push"=0∧tabI qy "push"=1∧tabI qt "swap"=0∧tabI qy "swap"=0∧tabI qt "tell"=1∧tabI qy "tell"=0∧tabI qt "return"=1∧inT "push" qJ=false∧inT "swap" qJ=true∧inT "tell" qJ=false∧inT "return" qJ=false∧inT "push" zO=false∧inT "swap" zO=false∧inT "tell" zO=false∧inT "return" zO=true:=by trivial
theorem z53 {d d':Int} {l:List Row} (h:Go d l d') (b:List Row):chk Γ0 (l++b) (some (d,[]))=chk Γ0 b (some (d',[])):=by
 obtain ⟨t1,t2,t3,t4,t5,t6,t7,p1,p2,p3,p4,n1,n2,n3,n4⟩:=z4n
 induction h with
 | nil d=>rfl
 | @push d d' l j ln h0 hj hl t ih=>
  rw [List.cons_append,JS z12 (by unfold qH;rw [p1,kq ka,t1];exact h0),n1,kq ka]
  have:zM ⟨"push",.int j,ln⟩ d=d+1:=by unfold zM;rw [t1,t2];lia
  rw [this]
  exact ih
 | @swap d d' l k ln h2 h9 hk hl t ih=>
  rw [List.cons_append,JS z11 (by unfold qH;rw [p2,kr rfl];exact hk),n2,kq ka]
  have:zM ⟨"swap",.int (k:Nat),ln⟩ d=d:=by unfold zM;rw [t3,t4];lia
  rw [this]
  exact ih
 | @tell d d' l ln h hl t ih=>
  rw [List.cons_append,JS z10 (by unfold qH;rw [p3,kq ka,t5];exact h),n3,kq ka]
  have:zM ⟨"tell",.non,ln⟩ d=d - 1:=by unfold zM;rw [t5,t6];lia
  rw [this]
  exact ih
noncomputable def retR:Row:=⟨"return",.non,1⟩
theorem Q9 {d':Int} {l:List Row} (h:Go 0 l d') (hd:1≤d') (hl:l.length≤99):(jE (l++[retR])).isSome=true:=by
 obtain ⟨t1,t2,t3,t4,t5,t6,t7,p1,p2,p3,p4,n1,n2,n3,n4⟩:=z4n
 have c:chk Γ0 (l++[retR]) (some (0,[]))=some none:=by
  rw [z53 h,JS (r:=retR) z3k (by unfold qH;rw [show retR.op="return" from rfl,p4,kq ka,t7];exact hd),show retR.op="return" from rfl,n4,kr rfl]
  rfl
 have T:=z26 (rs:=l++[retR]) (fun m s e=>by cases e) c
 obtain ⟨fin,e,_⟩:=z0E T (by simp;lia)
 rw [e]
 rfl
theorem z3e:zG "push"=some ("value":Str)∧zG "swap"=some ("swapped":Str)∧zG "tell"=some ("none":Str)∧zG "return"=some ("none":Str):=by trivial
theorem z1k {ln:Int} (h:0≤ln∧ln≤9999):zS (.int ln) 0 9999=true:=by
 show (decide (0≤ln)&&decide (ln≤9999))=true
 rw [kf h.1,kf h.2]
 rfl
theorem z42 {d d':Int} {l:List Row} (h:Go d l d'):∀r∈l,jB r∧r.op≠"label"∧zG r.op≠some ("mark":Str):=by
 obtain ⟨s1,s2,s3,s4⟩:=z3e
 have nm:(("value":Str)≠"mark"∧("swapped":Str)≠"mark"∧("none":Str)≠"mark"):=by trivial
 induction h with
 | nil d=>intro r hr;cases hr
 | @push d d' l j ln h0 hj hl t ih=>
  intro r hr
  rcases kx.mp hr with z | z
  ·subst z
   refine ⟨?_,z12.lab,by show zG "push"≠_;rw [s1];exact fun z=>nm.1 (ku z)⟩
   show rowV "push" (.int j) (.int ln)=true
   unfold rowV qP
   rw [s1]
   show (true&&jG (.int j)&&zS (.int ln) 0 9999)=true
   rw [z1k hl]
   have:jG (.int j)=true:=by
    show (decide (V.int j=.non)||isB (.int j)||zS (.int j) (-1000000000) 1000000000||z1m (.int j))=true
    have:zS (.int j) (-1000000000) 1000000000=true:=by
     show (decide (-1000000000≤j)&&decide (j≤1000000000))=true
     rw [kf (by lia),kf (by lia)]
     rfl
    rw [this]
    simp
   rw [this]
   rfl
  ·exact ih r z
 | @swap d d' l k ln h2 h9 hk hl t ih=>
  intro r hr
  rcases kx.mp hr with z | z
  ·subst z
   refine ⟨?_,z11.lab,by show zG "swap"≠_;rw [s2];exact fun z=>nm.2.1 (ku z)⟩
   show rowV "swap" (.int (k:Nat)) (.int ln)=true
   unfold rowV qP
   rw [s2]
   show (true&&zS (.int (k:Nat)) 2 9&&zS (.int ln) 0 9999)=true
   rw [z1k hl]
   show (true&&(decide ((2:Int)≤(k:Nat))&&decide (((k:Nat):Int)≤9))&&true)=true
   rw [kf (by lia),kf (by lia)]
   rfl
  ·exact ih r z
 | @tell d d' l ln h hl t ih=>
  intro r hr
  rcases kx.mp hr with z | z
  ·subst z
   refine ⟨?_,z10.lab,by show zG "tell"≠_;rw [s3];exact fun z=>nm.2.2 (ku z)⟩
   show rowV "tell" .non (.int ln)=true
   unfold rowV qP
   rw [s3]
   show (true&&z1f .non&&zS (.int ln) 0 9999)=true
   rw [z1k hl]
   rfl
  ·exact ih r z
theorem Jf {d':Int} {l:List Row} (h:Go 0 l d') (hl:l.length≤99):Code (l++[retR]):=by
 obtain ⟨s1,s2,s3,s4⟩:=z3e
 have all:∀r∈l++[retR],jB r∧r.op≠"label"∧zG r.op≠some ("mark":Str):=fun r hr=>by
  rcases kL.mp hr with z | z
  ·exact z42 h r z
  ·rw [kj.mp z]
   refine ⟨?_,z3k.lab,by show zG "return"≠_;rw [s4];decide+kernel⟩
   show rowV "return" .non (.int 1)=true
   unfold rowV qP
   rw [s4]
   rfl
 refine ⟨fun r hr=>(all r hr).1,fun i r hi=>?_,by simp,by simp;lia⟩
 obtain ⟨_,a,b⟩:=all r (kA hi)
 unfold qS
 rw [kq a,kq b]
end My
set_option maxHeartbeats 8000000
namespace L2
open PySem PySem.Spec PyProof.Rows
theorem z1a {X:Cx}:OpR X (compareOp .IsNot) (fun x y H Q=>∃b c,x=.bl b∧y=.bl c∧Q (.bl (!decide (b=c))) H):=by
 intro pins s σ H x y v u Q I rx ry h
 obtain ⟨b,c,rfl,rfl,q⟩:=h
 cases rx
 cases ry
 exact PySem.wpAny_isNot_plain rfl (zv I q (by cases b <;> cases c <;> rfl))
end L2
namespace My
open PySem PySem.Spec PyProof.Rows L2
variable {P:Program} {w:World} {K:ko} {mg:Str→Option Value} {base:Heap}
noncomputable def rowD (r:Row):PyData:=.tuple [.str r.op,qU r.arg,.int r.line]
noncomputable def z0s (rs:List Row):PyData:=.list (rs.map rowD)
theorem z2e {r:Row} (h:qC (.str r.op)∧qC r.arg∧qC (.int r.line)):(rowD r).showable=true∧(rowD r).hasDict=false∧(rowD r).depth≤2∧(rowD r).shown.length≤200:=by
 have e:rowD r=.tuple (([.str r.op,r.arg,.int r.line]:List V).map qU):=rfl
 obtain ⟨a,b,c,d⟩:=QN (xs:=[.str r.op,r.arg,.int r.line]) (fun x hx=>by
  simp only [kx,kl,or_false] at hx
  rcases hx with rfl | rfl | rfl
  ·exact h.1
  ·exact h.2.1
  ·exact h.2.2)
 obtain ⟨e1,f1⟩:=jQ [.str r.op,r.arg,.int r.line]
 rw [e]
 refine ⟨by simp only [PyData.showable];exact b,by simp only [PyData.hasDict];exact e1,by simp only [PyData.depth,f1];lia,?_⟩
 simp only [PyData.shown]
 have l:=tupleText_len_le (PyData.shownAll (([.str r.op,r.arg,.int r.line]:List V).map qU))
 have l3:([.str r.op,r.arg,.int r.line]:List V).length=3:=rfl
 lia
theorem Qm:∀{rs:List Row},(∀r∈rs,qC (.str r.op)∧qC r.arg∧qC (.int r.line))→PyData.showableAll (rs.map rowD)=true∧PyData.hasDictAll (rs.map rowD)=false∧PyData.depthAll (rs.map rowD)≤2∧((PyData.shownAll (rs.map rowD)).map (fun t=>t.length)).sum≤200 * rs.length∧(PyData.shownAll (rs.map rowD)).length=rs.length
 | [],_=>⟨by simp only [List.map_nil,PyData.showableAll],by simp only [List.map_nil,PyData.hasDictAll],by simp only [List.map_nil,PyData.depthAll];lia,by simp only [List.map_nil,PyData.shownAll];decide,by simp only [List.map_nil,PyData.shownAll];rfl⟩
 | r :: rs,h=>by
  obtain ⟨a,b,c,d,e⟩:=Qm (rs:=rs) fun y hy=>h y (kK _ hy)
  obtain ⟨f1,f2,f3,f4⟩:=z2e (h r (kJ ..))
  refine ⟨by simp only [kM,PyData.showableAll,f1,a,Bool.and_self],by simp only [kM,PyData.hasDictAll,f2,b,Bool.or_self],by simp only [kM,PyData.depthAll];lia,?_,?_⟩
  ·simp only [kM,PyData.shownAll,List.sum_cons,kI]
   lia
  ·simp only [kM,PyData.shownAll,kI]
   lia
theorem z0S {K:ko} {H:Hp}:∀{as:List Addr} {rs:List Row},zp H as rs→(∀r∈rs,qC r.arg)→RdVs K H (as.map V.ref) (rs.map rowD)
 | _,_,.nil,_=>.nil
 | _,r :: _,.cons h t,hb=>.cons (.tup (SqT.of h) (.cons (.flat (x:=.str _) rfl) (.cons (.flat (hb r (kJ ..)).1) (.cons (.flat (x:=.int _) rfl) .nil)))) (z0S t fun r hr=>hb r (kK _ hr))
theorem Jx {K:ko} {H:Hp} {l:Addr} {as:List Addr} {rs:List Row} (hl:H l=some (.lst (as.map V.ref))) (hR:zp H as rs) (hb:∀r∈rs,qC (.str r.op)∧qC r.arg∧qC (.int r.line)) (hn:rs.length≤200) {Q:VK} {E:XK} (q:Q (.str (z0s rs).shown) H):QY K [.ref l] H Q E:=by
 obtain ⟨a,b,c,d,e⟩:=Qm hb
 refine ⟨l,z0s rs,rfl,.lst (SqL.of hl) (z0S hR fun r hr=>(hb r hr).2.1),⟨by simp only [z0s,PyData.showable];exact a,by simp only [z0s,PyData.hasDict];exact b,by simp only [z0s,PyData.depth];lia,?_⟩,q⟩
 simp only [z0s,PyData.shown]
 have:=listText_len_le (PyData.shownAll (rs.map rowD))
 lia
theorem ops4:∀z∈(["push","swap","tell","return"]:List Str),(qU (.str z)).showable=true∧(qU (.str z)).shown.length≤60:=by trivial
theorem Z5 {z:Str} (h:z∈(["push","swap","tell","return"]:List Str)):qC (.str z):=⟨rfl,(ops4 z h).1,(ops4 z h).2⟩
theorem QM:qC .non:=⟨rfl,by trivial,by trivial⟩
theorem z2F {d d':Int} {l:List Row} (h:Go d l d'):∀r∈l,qC (.str r.op)∧qC r.arg∧qC (.int r.line):=by
 induction h with
 | nil d=>intro r hr;cases hr
 | @push d d' l j ln h0 hj hl t ih=>
  intro r hr
  rcases kx.mp hr with z | z
  ·subst z;exact ⟨Z5 (by simp),qN (ke (by lia)),qN (i:=ln) (ke (by lia))⟩
  ·exact ih r z
 | @swap d d' l k ln h2 h9 hk hl t ih=>
  intro r hr
  rcases kx.mp hr with z | z
  ·subst z;exact ⟨Z5 (by simp),qN (ke (by lia)),qN (i:=ln) (ke (by lia))⟩
  ·exact ih r z
 | @tell d d' l ln h hl t ih=>
  intro r hr
  rcases kx.mp hr with z | z
  ·subst z;exact ⟨Z5 (by simp),QM,qN (i:=ln) (ke (by lia))⟩
  ·exact ih r z
theorem z0T:qC (.str retR.op)∧qC retR.arg∧qC (.int retR.line):=⟨Z5 (show retR.op∈_ by simp [retR]),QM,qN (by decide)⟩
structure Dr (K:ko) (H:Hp) (a t r:Addr) (ns:List Int) (c:Nat) (rs:List Row):Prop where
 scr:Scr K H a (ns.map V.int)
 town:∃cells:List Int,cells.length=ns.length∧H t=some (.lst (qT c cells))
 rows:∃as,H r=some (.lst (as.map V.ref))∧zp H as rs
 ne:t≠r
section
variable {K:ko} {H:Hp} {a t r:Addr} {ns:List Int} {c:Nat} {rs:List Row}
theorem Dr.put (d:Dr K H a t r ns c rs) (hl:rs.length≤1000) {op:Str} {v:V} {Q:VK} {E:XK} (h:∀H',Dr K H' a t r ns c (rs++[⟨op,v,10+(rs.length:Int) / 2⟩])→Q .non H'):z00 [.ref r,.str op,v] H Q E:=by
 obtain ⟨as,h1,h2⟩:=d.rows
 obtain ⟨cells,h3,h4⟩:=d.town
 have e:(as.map V.ref).length=rs.length:=by rw [kg];exact h2.len
 refine ⟨r,op,v,_,rfl,h1,by lia,fun x hx=>?_⟩
 rw [e]
 have nx:∀b o,H b=some o→b≠x:=fun b o e=>z8 e hx
 have keep:∀b o,H b=some o→b≠r→upd (upd H x (.tup [.str op,v,.int (10+(rs.length:Int) / 2)])) r (.lst (as.map V.ref++[.ref x])) b=some o:=fun b o e hb=>by rw [zc hb,zc (nx _ _ e)];exact e
 refine h _ ⟨d.scr.keep fun o u e=>keep _ _ e (fun z=>by rw [z,h1] at e;cases e),⟨cells,h3,keep _ _ h4 d.ne⟩,⟨as++[x],by rw [z6,kD];rfl,?_⟩,d.ne⟩
 refine zp.append (h2.keep fun b xs e=>keep _ _ e (fun z=>by rw [z,h1] at e;cases e)) (.cons ?_ .nil)
 rw [zc (nx _ _ h1).symm]
 exact z6
theorem Dr.draw (d:Dr K H a t r ns c rs) (hn:ns.length≤1000) (hc:c≤1000) {many:Int} (h1:1≤many) (h2:many≤1000) {Q:VK} {E:XK} (h:∀(i:Int) H',0≤i→i < many→Dr K H' a t r ns (c+1) rs→Q (.int i) H'):z0L K [.ref a,.ref t,.int many] H Q E:=by
 obtain ⟨as,r1,r2⟩:=d.rows
 obtain ⟨cells,t1,t2⟩:=d.town
 refine ⟨a,t,ns,c,cells,many,rfl,d.scr,hn,t1,t2,by lia,h1,h2,fun i cells' H' i0 i1 c1 c2 kp=>?_⟩
 exact h i H' i0 i1 ⟨d.scr.keep1 kp t2,⟨cells',c1,c2⟩,⟨as,kp _ _ r1 d.ne.symm,r2.keep fun b xs e=>kp _ _ e (fun z=>by rw [z,t2] at e;cases e)⟩,d.ne⟩
end
theorem qf.keep {H H':Hp}:∀{as:List Addr} {ts:List (List V)},qf H as ts→(∀a xs,H a=some (.tup xs)→H' a=some (.tup xs))→qf H' as ts
 | _,_,.nil,_=>.nil
 | _,_,.cons h t,k=>.cons (k _ _ h) (qf.keep t k)
theorem qf.app {H:Hp}:∀{as bs:List Addr} {gs ts:List (List V)},qf H as gs→qf H bs ts→qf H (as++bs) (gs++ts)
 | _,_,_,_,.nil,h=>h
 | _,_,_,_,.cons a t,h=>.cons a (qf.app t h)
theorem zK.same {H H':Hp} {as:List Addr} {gs:List (List Nat)} (h:zK H as gs) (s:Same H H'):zK H' as gs:=h.keep fun a _ o e=>s _ _ e
theorem Q8 (bs:List Bool):inV (.bl false) (bs.map V.bl)= !bs.all id:=by
 unfold inV
 rw [List.any_map]
 induction bs with
 | nil=>rfl
 | cons b bs ih=>
  rw [List.any_cons,List.all_cons,ih]
  cases b with
  | false=>rfl
  | true=>show (false|| !bs.all id)= !(true&&bs.all id);simp
theorem Zv (gs:List (List Nat)):(gs.map qQ).all id=gs.all qQ:=by
 rw [List.all_map]
 rfl
noncomputable def two (r:Row):List V:=[.str r.op,r.arg]
section
theorem Zf {tl nl:Addr} {gas:List Addr} {gs:List (List Nat)} {H1:Hp} {R:Hp→Prop} (hl:H1 tl=some (.lst (gas.map V.ref))) (hL:zK H1 gas gs) (hok:∀ks∈gs,Nums 9 ks∧ks.length≤100) (hn:gs.length≤1000) (hnl:H1 nl=none) (hd:∀H4,Same H1 H4→H4 nl=some (.lst ((gs.map qQ).map V.bl))→R H4):
  ∃W:Nat→Nat→List V→L2.St→Hp→Prop,(∃m,W 0 m [] [none] (upd H1 nl (.lst [])))∧∀i m ys σ' H2,W i m ys σ' H2→
   ((Itl K tl).stop i H2∧R H2)∨((Itl K tl).go i H2∧∀x H3,(Itl K tl).yld i H2 x H3→Qa 0 x σ' H3 fun σ2 H4=>tAll σ2 H4 fun b H5=>if b=true then z2b ZQ [] E0 (z4t (tVar 0) tNil) σ2 H5 fun v H6=>H6 nl=some (.lst ys)∧ys.length < sizeLine∧∃m',m' < m∧W (i+1) m' (ys++[v]) σ2 (upd H6 nl (.lst (ys++[v])))
    else ∃m',m' < m∧W (i+1) m' ys σ2 H5):=by
 have hll:gas.length=gs.length:=Paired.length hL
 refine qw (K:=K) (a:=tl) (xs:=gas.map V.ref) (fun i ys σ H2=>(∃a:Option V,σ=[a])∧ys=((gs.take i).map qQ).map V.bl∧Same H1 H2∧H2 nl=some (.lst ys))
  ⟨⟨none,rfl⟩,rfl,zg hnl _,z6⟩ (fun i ys σ H2 _ ⟨_,_,s2,_⟩=>s2.seq (SqL.of hl)) ?_ ?_
 ·rintro i x ys σ H2 hi ⟨⟨b,rfl⟩,rfl,s2,hp2⟩
  obtain ⟨g,ks,rfl,ek,hg⟩:=(hL.same s2).get hi
  have hil:i < gs.length:=(kd.mp ek).1
  have ok:=hok ks (kA ek)
  refine zW ?_
  refine jD ⟨_,rfl,g,ks,rfl,hg,ok.1,ok.2,fun H3 s3=>⟨s3 _ _ hp2,?_,gas.length - (i+1),by rw [kg];lia,by rw [kg],by rw [kg];lia,⟨_,rfl⟩,?_,?_,z6⟩⟩
  ·rw [kg,kg,List.length_take,sizeLine_eq];lia
  ·rw [qx ek,kD,kD];rfl
  ·exact My.Same.upd (s2.trans s3) hnl _
 ·rintro ys σ H2 ⟨_,rfl,s2,hp2⟩
  rw [kg,hll,List.take_length] at hp2
  exact hd H2 s2 hp2
theorem z3j {l nl:Addr} {as:List Addr} {rs:List Row} {H1:Hp} {R:Hp→Prop} (hl:H1 l=some (.lst (as.map V.ref))) (hR:zp H1 as rs) (hn:rs.length≤1000) (hnl:H1 nl=none) (hd:∀H4 bs,Same H1 H4→H4 nl=some (.lst (bs.map V.ref))→qf H4 bs ((rs.filter nsB).map two)→R H4):
  ∃W:Nat→Nat→List V→L2.St→Hp→Prop,(∃m,W 0 m [] [none] (upd H1 nl (.lst [])))∧∀i m ys σ' H2,W i m ys σ' H2→
   ((Itl K l).stop i H2∧R H2)∨((Itl K l).go i H2∧∀x H3,(Itl K l).yld i H2 x H3→Qa 0 x σ' H3 fun σ2 H4=>z0z (tOp rNe (tOp (rIxT K) (tVar 0) (tC (.int 0))) (tC (.str "swap"))) σ2 H4 fun b H5=>if b=true then tSl (rSlT K) (tVar 0) ZO (z29 (tC (.int 2))) σ2 H5 fun v H6=>H6 nl=some (.lst ys)∧ys.length < sizeLine∧∃m',m' < m∧W (i+1) m' (ys++[v]) σ2 (upd H6 nl (.lst (ys++[v])))
    else ∃m',m' < m∧W (i+1) m' ys σ2 H5):=by
 have hll:as.length=rs.length:=hR.len
 refine qw (K:=K) (a:=l) (xs:=as.map V.ref) (fun i ys σ H2=>(∃a:Option V,σ=[a])∧(∃bs,ys=bs.map V.ref∧qf H2 bs (((rs.take i).filter nsB).map two)∧bs.length≤i)∧Same H1 H2∧H2 nl=some (.lst ys))
  ⟨⟨none,rfl⟩,⟨[],rfl,.nil,Nat.zero_le _⟩,zg hnl _,z6⟩ (fun i ys σ H2 _ ⟨_,_,s2,_⟩=>s2.seq (SqL.of hl)) ?_ ?_
 ·rintro i x ys σ H2 hi ⟨⟨b,rfl⟩,⟨bs,rfl,hB,hBl⟩,s2,hp2⟩
  obtain ⟨t,r,rfl,er,ht⟩:=(hR.same s2).get hi
  have hil:i < rs.length:=(kd.mp er).1
  refine zW ?_
  refine ⟨_,rfl,t,_,_,_,rfl,rfl,SqT.of ht,zj (j:=0) rfl,rfl,nsB r,?_,?_⟩
  ·unfold nsB
   refine congrArg V.bl ?_
   congr 1
   rw [Bool.eq_iff_iff,decide_eq_true_iff,decide_eq_true_iff]
   exact ⟨V.str.inj,fun z=>by rw [z]⟩
  have ef:(rs.take (i+1)).filter nsB=(rs.take i).filter nsB++if nsB r=true then [r] else []:=by
   rw [qx er,List.filter_append,List.filter_cons]
   split <;> rfl
  cases hb:nsB r with
  | false=>
   rw [hb,kq ka,kN] at ef
   refine iteF ⟨as.length - (i+1),by rw [kg];lia,by rw [kg],by rw [kg];lia,⟨_,rfl⟩,⟨bs,rfl,by rw [ef];exact hB,by lia⟩,s2,hp2⟩
  | true=>
   rw [hb,kr rfl] at ef
   refine iteT ⟨_,rfl,_,rfl,t,_,rfl,SqT.of ht,?_,fun u hu=>?_⟩
   ·rintro ⟨_,z⟩
    revert z
    show ¬(HT.sIx 3 3 (some ((2:Nat):Int))=3)
    rw [HT.sIx_nat]
    decide
   have ecut:cutV (tupV r) none (some 2)=two r:=rfl
   rw [ecut]
   have s3:=zg hu (.tup (two r))
   refine ⟨s3 _ _ hp2,?_,as.length - (i+1),by rw [kg];lia,by rw [kg],by rw [kg];lia,⟨_,rfl⟩,⟨bs++[u],by simp,?_,by rw [kh];show bs.length+1≤i+1;lia⟩,My.Same.upd (s2.trans s3) hnl _,z6⟩
   ·rw [kg,sizeLine_eq];lia
   have nu:nl≠u:=fun z=>by rw [←z,hp2] at hu;cases hu
   rw [ef,kD]
   refine qf.app (qf.keep hB fun c xs e=>?_) (.cons ?_ .nil)
   ·rw [zc (fun z=>by rw [z,hp2] at e;cases e)]
    exact s3 _ _ e
   ·rw [zc nu.symm]
    exact z6
 ·rintro ys σ H2 ⟨_,⟨bs,rfl,hB,hBl⟩,s2,hp2⟩
  rw [kg,hll,List.take_length] at hB
  exact hd H2 bs s2 hp2 hB
end
noncomputable def N73:List Str:=["_law_script","_law_town_here","_law_rows","_law_j","_law_k","_law_code","_law_other","_law_one","_law_then"]
theorem sc73:zh N73 ["_law_script"] (zd (top 73)):=fsM
theorem ndM:(["_law_many"]:List Str).Nodup:=by decide
theorem ndW:(["_law_row"]:List Str).Nodup:=by decide
section
def z2c (K:ko):Sp:=fun vs H Q _=>∃(a:Addr) (ns:List Int),vs=[.ref a]∧Scr K H a (ns.map V.int)∧ns.length≤63∧∀H',Q (.bl true) H'
structure CdI (H:Hp) (l:Addr) (as:List Addr) (rs:List Row) (d:Int):Prop where
 lst:H l=some (.lst (as.map V.ref))
 rows:zp H as (rs++[retR])
 go:Go 0 rs d
 pos:1≤d
 few:rs.length≤99
theorem CdI.same {H H':Hp} {l:Addr} {as:List Addr} {rs:List Row} {d:Int} (h:CdI H l as rs d) (s:Same H H'):CdI H' l as rs d:=⟨s _ _ h.lst,h.rows.same s,h.go,h.pos,h.few⟩
theorem CdI.ok {H:Hp} {l:Addr} {as:List Addr} {rs:List Row} {d:Int} (h:CdI H l as rs d):∀r∈rs++[retR],qo r:=fun r hr=>by
 rcases kL.mp hr with z | z
 ·exact h.go.okS r z
 ·rw [kj.mp z]
  exact fun z=>absurd z (by show ("return":Str)≠"swap";decide+kernel)
theorem CdI.brief {H:Hp} {l:Addr} {as:List Addr} {rs:List Row} {d:Int} (h:CdI H l as rs d):∀r∈rs++[retR],qC (.str r.op)∧qC r.arg∧qC (.int r.line):=fun r hr=>by
 rcases kL.mp hr with z | z
 ·exact z2F h.go r z
 ·rw [kj.mp z]
  exact z0T
theorem CdI.len {H:Hp} {l:Addr} {as:List Addr} {rs:List Row} {d:Int} (h:CdI H l as rs d):(rs++[retR]).length≤100:=by
 have:=h.few
 rw [kh]
 show rs.length+1≤100
 lia
theorem ZD:∀(rs g:List Row),swL g (rs++[retR])=swL g rs++[retR]
 | [],g=>by
  rw [List.nil_append,qu,kq (by show ¬(("return":Str)="swap");decide+kernel),qW,qW]
  have:shG []=[]:=by
   unfold shG shM
   have h:(qq ([].map numR)).length=([]:List Row).length:=by
    obtain ⟨_,_,_,_,b⟩:=qG (ks:=[]) (fun _ h=>by cases h) (by decide)
    exact Nat.le_zero.mp b
   rw [kr h]
  rw [this]
 | r :: rs,g=>by
  rw [List.cons_append,qu,qu]
  by_cases ho:r.op="swap"
  ·rw [kr ho,kr ho,ZD rs]
  ·rw [kq ho,kq ho,ZD rs]
   simp
theorem z5c {f:Addr} {fd:FuncData} (D:Fun K "law" "law" (top 73) f fd) (G:Glo mg) (FT:FN P w K mg base 1 "_law_town" ["_law_script"] (z3a K)) (FD:FN P w K mg base 1 "_law_draw" ["_law_script","_law_town_here","_law_many"] (z0L K))
  (FP3:FNd P w K mg base 1 "_law_put" ["_law_rows","_law_op","_law_arg"] [] z00) (FP2:FNd P w K mg base 1 "_law_put" ["_law_rows","_law_op","_law_arg"] [.non] z00)
  (FW:FN P w K mg base 11 "swapped" ["code"] Zb) (FI:FN P w K mg base 12 "is_swapped" ["code"] z3c) (FG:FN P w K mg base 1 "_law_groups" ["_law_code"] Ju) (FH:FN P w K mg base 4 "_law_short" ["_law_many"] ZQ) (FS:FN P w K mg base 2 "_law_shown" ["_law_thing"] (QY K)):
  FnOk P w K mg base CX0 13 f fd ["_law_script"] (z2c K):=by
 refine D.ok sc73 (fun vs H Q E h=>by obtain ⟨a,ns,rfl,_⟩:=h;rfl) (fun cdv A outer s H vs Q E hr h=>?_)
 obtain ⟨a,ns,rfl,hS,hns,q⟩:=h
 have hr1:=hr.mono (show 1≤12 by decide)
 have hr2:=hr.mono (show 2≤12 by decide)
 have hr4:=hr.mono (show 4≤12 by decide)
 have hr11:=hr.mono (show 11≤12 by decide)
 have hu:(A.deeper (envOfC "law" (zd (top 73)) s.heap.objs.size f cdv)).units+3 < cLine:=by have:=hr.un;lia
 refine ⟨_,zb (zw (i:=1) sc73.nd rfl (Or.inl rfl) (zt FT hr1 rfl (z0 (pv 0) z7)))
  (zb (zw (i:=2) sc73.nd rfl (Or.inl rfl) (qr z7))
  (zb (jg PassesOwn.never rfl (jq rfl G.range (z0 zf z7)) (zm (i:=3) sc73.nd rfl (Or.inl rfl)) (ze (zQ (z16 FP3 hr1 rfl (z0 (pv 2) (z0 zY (z0 (pv 3) z7)))))))
  (zb (jg PassesOwn.never rfl (jq rfl G.range (z0 (zI qL zf (zt FD hr1 rfl (z0 (pv 0) (z0 (pv 1) (z0 zf z7))))) z7)) (zm (i:=4) sc73.nd rfl (Or.inl rfl))
   (zb (jg PassesOwn.never rfl (jq rfl G.range (z0 (zt FD hr1 rfl (z0 (pv 0) (z0 (pv 1) (z0 zf z7)))) z7)) (zm (i:=3) sc73.nd rfl (Or.inl rfl))
    (ze (zQ (z16 FP3 hr1 rfl (z0 (pv 2) (z0 zY (z0 (zI qL zf (zt FD hr1 rfl (z0 (pv 0) (z0 (pv 1) (z0 (zI Zj zf (pv 4)) z7))))) z7)))))))
   (ze (zQ (z16 FP2 hr1 rfl (z0 (pv 2) (z0 zY z7)))))))
  (zb (zw (i:=5) sc73.nd rfl (Or.inl rfl) (zI z1c (pv 2) (qr (z0 (qz (z0 zY (z0 qA (z0 zf z7)))) z7))))
  (zb (zw (i:=6) sc73.nd rfl (Or.inl rfl) (zt FW hr11 rfl (z0 (pv 5) z7)))
  (zb (JA (i:=7) (j:=8) rfl sc73.nd rfl rfl (by decide) rfl rfl (z0 (zt FG hr1 rfl (z0 (pv 5) z7)) (z0 (zt FG hr1 rfl (z0 (pv 6) z7)) z7)) rfl)
  (zb (qc (PW.pt (Qn (zq Q0 (zl zk rfl G.len zF (z0 (pv 7) z7)) (zl zk rfl G.len zF (z0 (pv 8) z7)) (zu _))
   (Qn (zq qK jI (qv (N:=["_law_many"]) (nt:=1) (ix:=[]) (cl:=[]) rfl (qh.plain (by trivial) (by trivial) rfl (by trivial) rfl) (qd (pv 8)) (fun _ _ _ _=>zm (i:=0) ndM rfl (Or.inl rfl)) (fun _ _ _ _=>qX) (fun _ _ _ _=>zt FH hr4 rfl (z0 (pv 0) z7))) rfl)
   (Zg (zq z1a (zt FI hr rfl (z0 (pv 6) z7)) jI (zu _)))))) (ze (zi jI)) zA)
  (zb (qc (zq Q0 (qe z4Q (zt FI hr rfl (z0 (pv 5) z7)) jI (zu _))
   (qe j6 jI (qv (N:=["_law_many"]) (nt:=1) (ix:=[]) (cl:=[]) rfl (qh.plain (by trivial) (by trivial) rfl (by trivial) rfl) (qd (pv 7)) (fun _ _ _ _=>zm (i:=0) ndM rfl (Or.inl rfl)) (fun _ _ _ _=>qX) (fun _ _ _ _=>zt FH hr4 rfl (z0 (pv 0) z7))) rfl) (zu _)) (ze (zi jI)) zA)
  (zb (qc (PW.pt (Jy (zq j6 jI (qv (N:=["_law_many"]) (nt:=1) (ix:=[]) (cl:=[]) rfl (qh.plain (by trivial) (by trivial) rfl (by trivial) rfl) (qd (pv 7)) (fun _ _ _ _=>zm (i:=0) ndM rfl (Or.inl rfl)) (fun _ _ _ _=>qX) (fun _ _ _ _=>zt FH hr4 rfl (z0 (pv 0) z7))) rfl)
   (ZT (zq Q0 (zt FS hr2 rfl (z0 (pv 6) z7)) (zt FS hr2 rfl (z0 (pv 5) z7)) (zu _))))) (ze (zi jI)) zA)
  (ze (zi (qe (z3S hu)
   (qv (N:=["_law_row"]) (nt:=1) (ix:=[]) (cl:=[]) rfl (qh.plain (by trivial) (by trivial) rfl (by trivial) rfl) (qd (pv 5)) (fun _ _ _ _=>zm (i:=0) ndW rfl (Or.inl rfl)) (fun _ _ _ _=>ZU (zq Q0 (zC (Q5 (K:=K) rfl) (pv 0) zf (fun _ _=>rfl)) zY (zu _))) (fun _ _ _ _=>ZW (z0P (K:=K) rfl) (pv 0) J6 (J5 zf)))
   (qv (N:=["_law_row"]) (nt:=1) (ix:=[]) (cl:=[]) rfl (qh.plain (by trivial) (by trivial) rfl (by trivial) rfl) (qd (pv 6)) (fun _ _ _ _=>zm (i:=0) ndW rfl (Or.inl rfl)) (fun _ _ _ _=>ZU (zq Q0 (zC (Q5 (K:=K) rfl) (pv 0) zf (fun _ _=>rfl)) zY (zu _))) (fun _ _ _ _=>ZW (z0P (K:=K) rfl) (pv 0) J6 (J5 zf))) (zu _))))))))))))),?_⟩
 refine ⟨_,rfl,a,ns,rfl,hS,by lia,fun t H1 s1 ht hT1=>?_⟩
 have hS1:Scr K H1 a (ns.map V.int):=hS.keep fun o u e=>s1 _ _ e
 refine ⟨by show 0≤sizeLine;decide,fun r hr0=>?_⟩
 have s2:=zg hr0 (.lst [])
 have ntr:t≠r:=z8 hT1 hr0
 have dr0:Dr K (upd H1 r (.lst [])) a t r ns 0 []:=⟨hS1.keep fun o u e=>s2 _ _ e,⟨ns,rfl,s2 _ _ hT1⟩,⟨[],z6,.nil⟩,ntr⟩
 clear hS hS1 hT1 ht s1 s2
 refine ⟨9,rfl,by decide,by decide,Zr (lo:=0) (n:=9) (fun i σ H2=>∃(v:Option V) (rs:List Row),σ=[some (.ref a),some (.ref t),some (.ref r),v,none,none,none,none,none]∧Dr K H2 a t r ns 0 rs∧rs.length=i∧Go 0 rs (i:Int))
  ⟨none,[],rfl,dr0,rfl,.nil 0⟩ ?_ ?_⟩
 ·rintro i σ H2 hi ⟨v,rs,rfl,dr,hl,hg⟩
  refine zW ?_
  refine ⟨_,rfl,_,rfl,Dr.put dr (by lia) fun H3 dr3=>⟨_,_,rfl,dr3,by rw [kh,hl];rfl,?_⟩⟩
  refine hg.app ?_
  rw [show (0:Int)+(i:Int)=(i:Int) by lia]
  exact .push (by lia) (by lia) (by lia) (.nil _)
 rintro σ H2 ⟨v,rs0,rfl,dr,hl0,hg0⟩
 refine ⟨_,rfl,_,rfl,Dr.draw dr (by lia) (by lia) (by decide) (by decide) fun j H3 j0 j4 dr3=>?_⟩
 refine ⟨_,_,rfl,rfl,1+j,rfl,by lia,by lia,Zr (lo:=0) (n:=(1+j).toNat) (fun i σ H4=>∃(v w:Option V) (c:Nat) (rs:List Row),σ=[some (.ref a),some (.ref t),some (.ref r),v,w,none,none,none,none]∧Dr K H4 a t r ns c rs∧c≤1+7 * i∧rs.length≤9+6 * i∧Go 0 rs (9 - (i:Int)))
  ⟨_,_,1,rs0,rfl,dr3,by lia,by lia,by rw [show (9:Int) - ((0:Nat):Int)=((9:Nat):Int) by decide];exact hg0⟩ ?_ ?_⟩
 ·rintro i σ H4 hi ⟨v,w',c,rs,rfl,dr4,hc,hl,hg⟩
  have hi4:i≤3:=by lia
  refine zW ?_
  refine ⟨_,rfl,_,rfl,Dr.draw dr4 (by lia) (by lia) (by decide) (by decide) fun m H5 m0 m6 dr5=>?_⟩
  refine ⟨m,rfl,by lia,by lia,Zr (lo:=0) (n:=m.toNat) (fun i1 σ H6=>∃(v:Option V) (c1:Nat) (rs1:List Row),σ=[some (.ref a),some (.ref t),some (.ref r),v,some (.int (0+(i:Int))),none,none,none,none]∧Dr K H6 a t r ns c1 rs1∧c1≤c+1+i1∧rs1.length≤rs.length+i1∧Go 0 rs1 (9 - (i:Int)))
   ⟨_,c+1,rs,rfl,dr5,by lia,by lia,hg⟩ ?_ ?_⟩
  ·rintro i1 σ H6 hi1 ⟨v,c1,rs1,rfl,dr6,hc1,hl1,hg1⟩
   have hi1':i1≤5:=by lia
   refine zW ?_
   refine ⟨_,rfl,_,rfl,_,rfl,_,rfl,_,_,rfl,rfl,Dr.draw dr6 (by lia) (by lia) (by lia) (by lia) fun k H7 k0 k8 dr7=>?_⟩
   refine ⟨_,_,rfl,rfl,Dr.put dr7 (by lia) fun H8 dr8=>⟨_,c1+1,_,rfl,dr8,by lia,by rw [kh];show rs1.length+1≤_;lia,?_⟩⟩
   refine hg1.app ?_
   have ek:(2:Int)+k=((2+k).toNat:Nat):=by lia
   show Go (9 - (i:Int)) [⟨"swap",.int (2+k),10+(rs1.length:Int) / 2⟩] (9 - (i:Int))
   rw [ek]
   exact .swap (by lia) (by lia) (by lia) (by lia) (.nil _)
  ·rintro σ H6 ⟨v,c1,rs1,rfl,dr6,hc1,hl1,hg1⟩
   have hm5:m.toNat≤5:=by lia
   refine ⟨_,rfl,Dr.put dr6 (by lia) fun H8 dr8=>⟨_,_,c1,_,rfl,dr8,by lia,by rw [kh];show rs1.length+1≤_;lia,?_⟩⟩
   refine hg1.app ?_
   rw [show (9:Int) - ((i+1:Nat):Int)=9 - (i:Int) - 1 by lia]
   exact .tell (by lia) (by lia) (.nil _)
 rintro σ H4 ⟨v,w',c,rs,rfl,dr4,hc,hl,hg⟩
 have hn4:(1+j).toNat≤4:=by lia
 obtain ⟨as,hr4',hR4⟩:=dr4.rows
 refine ⟨_,rfl,by show 3≤sizeLine;decide,fun x hx=>⟨by show 1≤sizeLine;decide,fun y hy=>?_⟩⟩
 have s5:=zg hx (.tup [.str "return",.non,.int 1])
 have s6:=s5.trans (zg hy (.lst [.ref x]))
 have hxy:(upd (upd H4 x (.tup [.str "return",.non,.int 1])) y (.lst [.ref x])) x=some (.tup (tupV retR)):=by
  have:x≠y:=fun z=>by rw [←z,z6] at hy;cases hy
  rw [zc this]
  exact z6
 have hal:as.length=rs.length:=hR4.len
 refine ⟨r,y,_,_,rfl,rfl,s6 _ _ hr4',z6,by rw [kg,sizeLine_eq];show as.length+1≤_;lia,fun l hl'=>?_⟩
 generalize hH6:upd (upd H4 x (.tup [.str "return",.non,.int 1])) y (.lst [.ref x])=H6 at *
 have s7:=zg hl' (.lst (as.map V.ref++[.ref x]))
 have C:CdI (upd H6 l (.lst (as.map V.ref++[.ref x]))) l (as++[x]) rs (9 - ((1+j).toNat:Int)):=⟨by rw [z6,kD];rfl,zp.append (hR4.same (s6.trans s7)) (.cons (s7 _ _ hxy) .nil),hg,by lia,by lia⟩
 generalize upd H6 l (.lst (as.map V.ref++[.ref x]))=H7 at *
 generalize as++[x]=bs at *
 generalize (9:Int) - ((1+j).toNat:Int)=dd at *
 clear s5 s6 s7 hxy hr4' hR4 dr4 hx hy hl' dr3 dr hg0 dr0 hH6
 refine ⟨_,rfl,l,bs,rs++[retR],rfl,C.lst,C.rows,Jf C.go C.few,Q9 C.go C.pos C.few,C.len,C.ok,fun o as' H8 s8 ho ho8 hO8=>?_⟩
 rw [ZD] at hO8
 have hsl:(swL [] rs).length≤rs.length:=by
  have a:=JJ rs [] AllS.nil (by rw [List.nil_append];exact C.go.okS) (by rw [List.nil_append];have:=C.few;lia)
  have g:=z0f rs [] 100 (fun _ h=>by cases h) C.go.okS (by show 0+rs.length≤100;have:=C.few;lia)
  have s:=z0C (f:=fun ks=>(nb ks).length) (g:=List.length) (l:=grM [] rs) fun ks hk=>(JI (g ks hk).1 (g ks hk).2).2
  have a:(swL [] rs).length+((grM [] rs).map List.length).sum=0+rs.length+((grM [] rs).map fun ks=>(nb ks).length).sum:=a
  lia
 have C8:=C.same s8
 have O8:CdI H8 o as' (swL [] rs) dd:=⟨ho8,hO8,z41 rs [] 0 dd AllS.nil C.go (by rw [List.nil_append];have:=C.few;lia),C.pos,by have:=C.few;lia⟩
 clear ho8 hO8 s8 C ho
 refine ⟨_,rfl,l,bs,rs++[retR],rfl,C8.lst,C8.rows,C8.len,C8.ok,fun n1 g1 H9 s9 h9 hG9=>?_⟩
 refine ⟨_,rfl,o,as',swL [] rs++[retR],rfl,(O8.same s9).lst,(O8.same s9).rows,O8.len,O8.ok,fun n2 g2 H10 s10 h10 hG10=>?_⟩
 refine ⟨_,_,rfl,?_⟩
 have C10:=C8.same (s9.trans s10)
 have O10:=O8.same (s9.trans s10)
 have h9':=s10 _ _ h9
 have hG9':=hG9.same s10
 clear C8 O8 h9 hG9 s9 s10
 have okC:=z0f (rs++[retR]) [] 100 (fun _ h=>by cases h) C10.ok (by show 0+_≤_;have:=C10.len;lia)
 have okO:=z0f (swL [] rs++[retR]) [] 100 (fun _ h=>by cases h) O10.ok (by show 0+_≤_;have:=O10.len;lia)
 have eG:grM [] (swL [] rs++[retR])=(grM [] (rs++[retR])).map nb:=by
  rw [←ZD]
  exact z40 (rs++[retR]) [] AllS.nil (by rw [List.nil_append];exact C10.ok) (by rw [List.nil_append];exact C10.len)
 have shO:(grM [] (swL [] rs++[retR])).all qQ=true:=by
  rw [eG,List.all_map,List.all_eq_true]
  intro ks hk
  exact kf (z2q (okC ks hk).1 (okC ks hk).2)
 have l1:g1.length=(grM [] (rs++[retR])).length:=Paired.length hG9'
 have l2:g2.length=(grM [] (swL [] rs++[retR])).length:=Paired.length hG10
 have gle:∀(l:List Row) (g:List Nat),(grM g l).length≤l.length+1:=by
  intro l
  induction l with
  | nil=>intro g;rw [ji];exact kc _
  | cons r l ih=>
   intro g
   rw [qF]
   split
   ·have:=ih (g++[numR r]);rw [kI];lia
   ·have:=ih [];rw [kI,kI];lia
 have gc:=gle (rs++[retR]) []
 have go':=gle (swL [] rs++[retR]) []
 have lc:=C10.len
 have lo:=O10.len
 have isC:=z51 C10.ok C10.len
 have isO:=z51 O10.ok O10.len
 have nsE:(swL [] rs++[retR]).filter nsB=(rs++[retR]).filter nsB:=by
  rw [←ZD]
  exact z3H (rs++[retR]) [] AllS.nil
 have same:(grM [] (rs++[retR])).all qQ=true→swL [] rs++[retR]=rs++[retR]:=fun h=>by
  rw [←ZD]
  exact QW (rs++[retR]) [] fun ks hk=>List.all_eq_true.mp h ks hk
 have flat:∀xs∈((rs++[retR]).filter nsB).map two,xs.all qI=true:=fun xs hxs=>by
  obtain ⟨r,hr',e⟩:=kY.mp hxs
  have b:=C10.brief r ((List.mem_filter.mp hr').1)
  rw [←e]
  show (qI (.str r.op)&&(qI r.arg&&true))=true
  rw [b.2.1.1]
  rfl
 have eL:(grM [] (swL [] rs++[retR])).length=(grM [] (rs++[retR])).length:=by rw [eG,kg]
 generalize hgc:grM [] (rs++[retR])=gC at *
 generalize hgo:grM [] (swL [] rs++[retR])=gO at *
 have hCb:=C10.brief
 have hOb:=O10.brief
 refine ⟨_,rfl,n1,_,rfl,.inl (SqL.of h9'),_,rfl,n2,_,rfl,.inl (SqL.of h10),rfl,false,?_,iteF ?_⟩
 ·rw [kg,kg,l1,l2,eL,kf rfl]
  rfl
 refine ⟨_,rfl,n2,rfl,⟨_,SqL.of h10⟩,fun z1 hz1=>Zf h10 hG10 okO (by lia) hz1 fun H11 s11 h11=>?_⟩
 refine ⟨z1,_,rfl,.inl (SqL.of h11),rfl,by rw [List.all_map];exact List.all_eq_true.mpr fun _ _=>rfl,false,?_,iteF ?_⟩
 ·rw [kq ka,Q8,Zv,shO]
  rfl
 refine ⟨_,rfl,o,as',swL [] rs++[retR],rfl,(O10.same s11).lst,(O10.same s11).rows,Jf O10.go O10.few,Q9 O10.go O10.pos O10.few,O10.len,O10.ok,fun H12 s12=>?_⟩
 rw [isO,shO]
 refine ⟨_,_,rfl,rfl,false,rfl,iteF ?_⟩
 have s1012:=s11.trans s12
 have C12:=C10.same s1012
 have O12:=O10.same s1012
 have h12:=s1012 _ _ h9'
 have hG12:=hG9'.same s1012
 clear C10 O10 h9' hG9' h10 hG10 s11 s12 s1012 h11 hz1
 refine ⟨_,rfl,l,bs,rs++[retR],rfl,C12.lst,C12.rows,Jf C12.go C12.few,Q9 C12.go C12.pos C12.few,C12.len,C12.ok,fun H13 s13=>⟨_,rfl,?_⟩⟩
 rw [isC]
 have h13:=s13 _ _ h12
 have hG13:=hG12.same s13
 refine ⟨_,rfl,n1,rfl,⟨_,SqL.of h13⟩,fun z2 hz2=>Zf h13 hG13 okC (by lia) hz2 fun H14 s14 h14=>?_⟩
 refine ⟨z2,_,rfl,.inl (SqL.of h14),rfl,by rw [List.all_map];exact List.all_eq_true.mpr fun _ _=>rfl,rfl,false,?_,iteF ?_⟩
 ·rw [kr rfl,Q8,Zv]
  cases gC.all qQ <;> rfl
 have s1214:=s13.trans s14
 have C14:=C12.same s1214
 have O14:=O12.same s1214
 have h14':=s1214 _ _ h12
 have hG14:=hG12.same s1214
 clear C12 O12 h12 hG12 s13 s14 s1214 h14 hz2 h13 hG13
 have last:∀H15,Same H14 H15→tRet (tOp (z4G K) (Jr 1 [] (z3Z K (tVar 5)) (Qa 0) (z0z (tOp rNe (tOp (rIxT K) (tVar 0) (tC (.int 0))) (tC (.str "swap")))) (tSl (rSlT K) (tVar 0) ZO (z29 (tC (.int 2))))) (Jr 1 [] (z3Z K (tVar 6)) (Qa 0) (z0z (tOp rNe (tOp (rIxT K) (tVar 0) (tC (.int 0))) (tC (.str "swap")))) (tSl (rSlT K) (tVar 0) ZO (z29 (tC (.int 2)))))) { nx:=fun _ H'=>Q .non H',rt:=Q } [some (.ref a),some (.ref t),some (.ref r),v,w',some (.ref l),some (.ref o),some (.ref n1),some (.ref n2)] H15:=fun H15 s15=>by
  have C15:=C14.same s15
  have O15:=O14.same s15
  refine ⟨_,rfl,l,rfl,⟨_,SqL.of C15.lst⟩,fun z3 hz3=>z3j C15.lst C15.rows (by lia) hz3 fun H16 b1 s16 h16 hT16=>?_⟩
  refine ⟨_,rfl,o,rfl,⟨_,SqL.of (O15.same s16).lst⟩,fun z4 hz4=>z3j (O15.same s16).lst (O15.same s16).rows (by lia) hz4 fun H17 b2 s17 h17 hT17=>?_⟩
  rw [nsE] at hT17
  exact ⟨z3,z4,b1,b2,_,rfl,rfl,SqL.of (s17 _ _ h16),SqL.of h17,qf.keep hT16 fun c xs e=>s17 _ _ e,hT17,flat,q _⟩
 refine ⟨_,rfl,n1,rfl,⟨_,SqL.of h14'⟩,fun z5 hz5=>Zf h14' hG14 okC (by lia) hz5 fun H15 s15 h15=>?_⟩
 refine ⟨z5,_,rfl,.inl (SqL.of h15),rfl,by rw [List.all_map];exact List.all_eq_true.mpr fun _ _=>rfl,gC.all qQ,?_,?_⟩
 ·rw [kr rfl,Q8,Zv]
  cases gC.all qQ <;> rfl
 cases hb:gC.all qQ with
 | false=>exact iteF (iteF (last H15 s15))
 | true=>
  have es:=same hb
  refine iteT ⟨_,rfl,Jx (O14.same s15).lst (O14.same s15).rows hOb (by lia) ?_⟩
  refine ⟨_,rfl,Jx (C14.same s15).lst (C14.same s15).rows hCb (by lia) ?_⟩
  refine ⟨rfl,false,?_,iteF (last H15 s15)⟩
  rw [es,kf rfl]
  rfl
end
section
end
def LK (K:ko) (f:Addr) (x q:Str) (st:Stmt):Prop:=∃(oc:Value) (od an:Option Addr) (osl:Array (Option Value)) (kV doc pm cdv ct:Value),K.lookup f=some ⟨oc,od,.func (PySem.W.fnOf x q (zX st) (zH st) (zd st) .none kV doc pm an cdv ct),osl⟩∧PySem.W.codeIn K cdv q=true∧PySem.W.keepIn K (.ref f)=true
theorem lk_mk {K:ko} {f:Addr} {x q:Str} {st:Stmt} {oc:Value} {od an:Option Addr} {osl:Array (Option Value)} {kV doc pm cdv ct:Value} (l:K.lookup f=some ⟨oc,od,.func (PySem.W.fnOf x q (zX st) (zH st) (zd st) .none kV doc pm an cdv ct),osl⟩) (c:PySem.W.codeIn K cdv q=true) (k:PySem.W.keepIn K (.ref f)=true):LK K f x q st:=⟨_,_,_,_,_,_,_,_,_,l,c,k⟩
def HD (K:ko) (f:Addr) (x:Str) (n:Nat):Prop:=PySem.W.nsIn K mainGlobals x=some (some (.ref f))∧LK K f x x (top n)
theorem hdm {K:ko} {f:Addr} {x:Str} {n:Nat} {oc:Value} {od an:Option Addr} {osl:Array (Option Value)} {kV doc pm cdv ct:Value} (a:PySem.W.nsIn K mainGlobals x=some (some (.ref f))) (l:K.lookup f=some ⟨oc,od,.func (PySem.W.fnOf x x (zX (top n)) (zH (top n)) (zd (top n)) .none kV doc pm an cdv ct),osl⟩) (c:PySem.W.codeIn K cdv x=true) (k:PySem.W.keepIn K (.ref f)=true):HD K f x n:=⟨a,lk_mk l c k⟩
theorem z5H {K:ko} {h:Heap} {mg:Str→Option Value} {x:Str} {n:Nat} {f:Addr} (X:K.In h) (G:h.Ns mainGlobals mg) (l:HD K f x n):zo K mg x (top n):=by
 obtain ⟨a,_,_,_,_,_,_,_,_,_,l,c,k⟩:=l
 exact ⟨f,_,z3u l c k,ki X G a⟩
def CN (K:ko) (x:Str) (i:Int):Prop:=∃u,PySem.W.nsIn K mainGlobals x=some (some u)∧RelV (.int i) u
theorem cnm {K:ko} {x:Str} {i:Int} {u:Value} (a:PySem.W.nsIn K mainGlobals x=some (some u)) (r:RelV (.int i) u):CN K x i:=⟨u,a,r⟩
theorem Jn {K:ko} {h:Heap} {mg:Str→Option Value} {x:Str} {i:Int} (X:K.In h) (G:h.Ns mainGlobals mg) (l:CN K x i):∃u,mg x=some u∧RelV (.int i) u:=l.elim fun u q=>⟨u,ki X G q.1,q.2⟩
def KT (K:ko) (w:World) (x:Str) (tab:List (Str × V)):Prop:=∃a,PySem.W.nsIn K mainGlobals x=some (some (.ref a))∧KTab w.params K a tab
theorem ktm {K:ko} {w:World} {x:Str} {tab:List (Str × V)} {a:Addr} {e:Array DictEntry} {n:Nat} (h:PySem.W.nsIn K mainGlobals x=some (some (.ref a))) (l:K.lookup a=some ⟨.type "dict",none,.dict e n,#[]⟩) (k:PySem.W.KeysLit w.params e.toList) (m:(a == sysModules)=false)
  (p:Paired (fun (p:Str × V) (e:DictEntry)=>(∃t,e.key=.str p.1 t)∧RelV p.2 e.val) tab e.toList):KT K w x tab:=⟨a,h,e,n,l,k,m,p⟩
theorem ktg {K:ko} {w:World} {h:Heap} {mg:Str→Option Value} {x:Str} {tab:List (Str × V)} (X:K.In h) (G:h.Ns mainGlobals mg) (l:KT K w x tab):∃d,mg x=some (.ref d)∧KTab w.params K d tab:=l.elim fun d q=>⟨d,ki X G q.1,q.2⟩
def KU (K:ko) (x:Str) (xs:List V):Prop:=∃a,PySem.W.nsIn K mainGlobals x=some (some (.ref a))∧KTup K a xs
theorem z3W {K:ko} {a:Addr} {xs:List V} {o:Obj} {its:Array Value} {n:Nat} (l:K.lookup a=some o) (c:o.cls=.type "tuple") (d:o.data=.seq its n) (v:Vals xs its.toList) (z:xs.length≤1000):KTup K a xs:=
 ⟨o,its,n,l,c,d,by have h1:xs.length=its.toList.length:=v.length;have h2:its.toList.length=its.size:=Array.length_toList;exact z0O (by lia),v⟩
theorem kum {K:ko} {x:Str} {a:Addr} {xs:List V} {o:Obj} {its:Array Value} {n:Nat} (h:PySem.W.nsIn K mainGlobals x=some (some (.ref a))) (l:K.lookup a=some o) (c:o.cls=.type "tuple") (d:o.data=.seq its n) (v:Vals xs its.toList) (z:xs.length≤1000):KU K x xs:=⟨a,h,z3W l c d v z⟩
theorem kug {K:ko} {h:Heap} {mg:Str→Option Value} {x:Str} {xs:List V} (X:K.In h) (G:h.Ns mainGlobals mg) (l:KU K x xs):∃a,mg x=some (.ref a)∧KTup K a xs:=l.elim fun d q=>⟨d,ki X G q.1,q.2⟩
theorem all_mk {l:PySem.W.OpenLaw} {w:World} {K:ko} {h:Heap} {mg:Str→Option Value} {fa T69 gfirst:Addr} {to69:Obj} {n69:Nat} (X:K.In h) (G:h.Ns mainGlobals mg) (hfa:mg "law"=some (.ref fa))
  {f13 f14 f15 f16 f17 f18 f19 f20 f21 f22 f23 f25 f26 f27 f28 f29 f30 f31 f32 f33 f43 f44 f45 f46 f47 f48 f49 f50 f51 f52 f53 f54 f57 f58 f59 f60 f61 f62 f63 f64 f65 f67 f68 f70 f71 f72 f73 f69:Addr} {od69 an69:Option Addr} {sl69:Array (Option Value)} {oc69 kV69 dc69 pm69 cd69 ct69:Value}
  {tfirst:Addr} {ofirst:Obj} {ifirst:Array Value} {nfirst:Nat}
{ogfirst:Obj} {igfirst:Array Value} {ngfirst:Nat}
  (l13:HD K f13 "is_number" 13)
  (l14:HD K f14 "is_number_within" 14)
  (l15:HD K f15 "is_letters" 15)
  (l16:HD K f16 "is_name" 16)
  (l17:HD K f17 "is_kind" 17)
  (l18:HD K f18 "is_mark" 18)
  (l19:HD K f19 "is_value_within" 19)
  (l20:HD K f20 "is_pushed" 20)
  (l21:HD K f21 "is_copied" 21)
  (l22:HD K f22 "is_swapped_with" 22)
  (l23:HD K f23 "is_none" 23)
  (l25:HD K f25 "is_op" 25)
  (l26:HD K f26 "arg_sort" 26)
  (l27:HD K f27 "arg_fits" 27)
  (l28:HD K f28 "is_row" 28)
  (l29:HD K f29 "label_places" 29)
  (l30:HD K f30 "mark_fits" 30)
  (l31:HD K f31 "first_bad_place" 31)
  (l32:HD K f32 "has_places" 32)
  (l33:HD K f33 "check_code" 33)
  (l43:HD K f43 "uppermost" 43)
  (l44:HD K f44 "depth_asked" 44)
  (l45:HD K f45 "lacks_values" 45)
  (l46:HD K f46 "lacks_guard" 46)
  (l47:HD K f47 "takes_beneath" 47)
  (l48:HD K f48 "moves" 48)
  (l49:HD K f49 "words_lacking" 49)
  (l50:HD K f50 "guards_behind" 50)
  (l51:HD K f51 "next_states" 51)
  (l52:HD K f52 "state_words" 52)
  (l53:HD K f53 "searched" 53)
  (l54:HD K f54 "states" 54)
  (l57:HD K f57 "is_order" 57)
  (l58:HD K f58 "exchanged" 58)
  (l59:HD K f59 "next_swap" 59)
  (l60:HD K f60 "swaps_to" 60)
  (l61:HD K f61 "fewest_swaps" 61)
  (l62:HD K f62 "order_made" 62)
  (l63:HD K f63 "shortest" 63)
  (l64:HD K f64 "swapped" 64)
  (l65:HD K f65 "is_swapped" 65)
  (l67:HD K f67 "_law_town" 67)
  (l68:HD K f68 "_law_draw" 68)
  (l70:HD K f70 "_law_shown" 70)
  (l71:HD K f71 "_law_groups" 71)
  (l72:HD K f72 "_law_short" 72)
  (l73:HD K f73 "law" 73)
  (a69:PySem.W.nsIn K mainGlobals "_law_put"=some (some (.ref f69)))
  (l69:K.lookup f69=some ⟨oc69,od69,.func (PySem.W.fnOf "_law_put" "_law_put" (zX (top 69)) (zH (top 69)) (zd (top 69)) (.ref T69) kV69 dc69 pm69 an69 cd69 ct69),sl69⟩)
  (c69:PySem.W.codeIn K cd69 "_law_put"=true)
  (k69:PySem.W.keepIn K (.ref f69)=true)
  (t69:K.lookup T69=some to69)
  (s69:to69.data=.seq #[Value.none] n69)
  (z_isinstance:PySem.W.nsIn K mainGlobals "isinstance"=some none)
  (z_int:PySem.W.nsIn K mainGlobals "int"=some none)
  (z_bool:PySem.W.nsIn K mainGlobals "bool"=some none)
  (z_str:PySem.W.nsIn K mainGlobals "str"=some none)
  (z_tuple:PySem.W.nsIn K mainGlobals "tuple"=some none)
  (z_list:PySem.W.nsIn K mainGlobals "list"=some none)
  (z_len:PySem.W.nsIn K mainGlobals "len"=some none)
  (z_range:PySem.W.nsIn K mainGlobals "range"=some none)
  (z_enumerate:PySem.W.nsIn K mainGlobals "enumerate"=some none)
  (z_all:PySem.W.nsIn K mainGlobals "all"=some none)
  (z_dict:PySem.W.nsIn K mainGlobals "dict"=some none)
  (z_max:PySem.W.nsIn K mainGlobals "max"=some none)
  (z_min:PySem.W.nsIn K mainGlobals "min"=some none)
  (z_abs:PySem.W.nsIn K mainGlobals "abs"=some none)
  (z_sorted:PySem.W.nsIn K mainGlobals "sorted"=some none)
  (z_zip:PySem.W.nsIn K mainGlobals "zip"=some none)
  (q_rows:CN K "MOST_ROWS" 150)
  (q_line:CN K "MOST_LINE" 9999)
  (q_mark:CN K "MOST_MARK" 99)
  (q_pushed:CN K "MOST_PUSHED" 1000000000)
  (q_name:CN K "LONGEST_NAME" 4)
  (q_kind:CN K "LONGEST_KIND" 8)
  (q_places:CN K "MOST_PLACES" 9)
  (ta_sorts:KT K w "ARG_SORTS" z0N)
  (ta_tests:KT K w "ARG_TESTS" [("value",.ref f20),("name",.ref f16),("copied",.ref f21),("swapped",.ref f22),("mark",.ref f18),("none",.ref f23)])
  (ta_takes:KT K w "TAKES" (QC qt))
  (ta_pushes:KT K w "PUSHES" (QC qy))
  (ta_gput:KT K w "GUARDS_PUT" (QC zT))
  (ua_jumping:KU K "JUMPING" (jumping.map V.str))
  (ua_leaving:KU K "LEAVING" (leaving.map V.str))
  (ua_never:KU K "NEVER_ON" (zO.map V.str))
  (ua_faulting:KU K "FAULTING" (faulting.map V.str))
  (ua_first:PySem.W.nsIn K mainGlobals "FIRST_STATE"=some (some (.ref tfirst)))
  (ul_first:K.lookup tfirst=some ofirst)
  (uc_first:ofirst.cls=.type "tuple")
  (ud_first:ofirst.data=.seq ifirst nfirst)
  (uv_first:Vals [.int 0,.ref gfirst] ifirst.toList)
  (ul_gfirst:K.lookup gfirst=some ogfirst)
  (uc_gfirst:ogfirst.cls=.type "tuple")
  (ud_gfirst:ogfirst.data=.seq igfirst ngfirst)
  (uv_gfirst:Vals [] igfirst.toList)
  :∃fd:FuncData,(∀(s:Shared) (v:Value),BindsTo s fd ⟨[v],[]⟩ [("_law_script",v)])∧∀base:Heap,K.In base→base.Ns mainGlobals mg→FnOk l.prog w K mg base CX0 13 fa fd ["_law_script"] (z2c K):=by
 have e:=hfa.symm.trans (ki X G l73.1)
 cases e
 have D {f:Addr} {x:Str} {n:Nat} (l:HD K f x n):zo K mg x (top n):=z5H X G l
 have DP:z25 K mg "_law_put" (top 69):=⟨f69,T69,oc69,kV69,dc69,pm69,cd69,ct69,od69,an69,sl69,to69,n69,ki X G a69,k69,l69,c69,t69,s69⟩
 have GG:Glo mg:=⟨PySem.W.mg_none_of X G z_isinstance,PySem.W.mg_none_of X G z_int,PySem.W.mg_none_of X G z_bool,PySem.W.mg_none_of X G z_str,PySem.W.mg_none_of X G z_tuple,PySem.W.mg_none_of X G z_list,PySem.W.mg_none_of X G z_len,PySem.W.mg_none_of X G z_range,PySem.W.mg_none_of X G z_enumerate,Jn X G q_rows,Jn X G q_line,Jn X G q_mark,Jn X G q_pushed,Jn X G q_name,Jn X G q_kind,PySem.W.mg_none_of X G z_all,PySem.W.mg_none_of X G z_dict,PySem.W.mg_none_of X G z_max,PySem.W.mg_none_of X G z_min,PySem.W.mg_none_of X G z_abs⟩
 obtain ⟨dtests,mtests,ktests⟩:=ktg X G ta_tests
 have GS:GloS mg:=⟨Jn X G q_places,PySem.W.mg_none_of X G z_sorted,PySem.W.mg_none_of X G z_zip⟩
 have TT:Tabs w K mg:=⟨ktg X G ta_sorts,⟨dtests,f20,f16,f21,f22,f18,f23,mtests,ktests,ki X G l20.1,ki X G l16.1,ki X G l21.1,ki X G l22.1,ki X G l18.1,ki X G l23.1⟩⟩
 have T2:z31 w K mg:=⟨ktg X G ta_takes,ktg X G ta_pushes,ktg X G ta_gput,kug X G ua_jumping,kug X G ua_leaving,kug X G ua_never,kug X G ua_faulting,⟨tfirst,gfirst,ki X G ua_first,z3W ul_first uc_first ud_first uv_first (by show 2≤1000;decide),z3W ul_gfirst uc_gfirst ud_gfirst uv_gfirst (by decide)⟩⟩
 obtain ⟨_,_,_,an,_,kV,dc,pm,cd,ct,lk,c,k⟩:=l73
 refine ⟨PySem.W.fnOf "law" "law" (zX (top 73)) (zH (top 73)) (zd (top 73)) .none kV dc pm an cd ct,fun s v=>.of_eq rfl,fun base _ _=>?_⟩
 have nF {x:Str} {ps:List Str} {sp:Sp} {k:Nat} (F:FN l.prog w K mg base k x ps sp):=F
 have num:=nF (QH (D l13) GG)
 have zS:=z1z (D l14) GG num
 have j8:=nF (z0j (D l15) GG)
 have name:=z47 (D l16) GG j8
 have kind:=z4a (D l17) GG j8
 have mark:=z48 (D l18) GG zS
 have value:=z2I (D l19) GG zS kind
 have pushed:=z1D (D l20) GG value
 have copied:=z1F (D l21) zS
 have swapped:=z0i (D l22) zS
 have none:=nF (z45 (D l23))
 have op:=nF (z5O (D l25) GG TT)
 have sort:=nF (z44 (D l26) TT)
 have fits:=z4c (D l27) TT sort pushed name copied swapped mark none
 have row:=z57 (D l28) GG op fits zS
 have labs:=z49 (D l29) GG row
 have mfits:=QG (D l30) sort
 have bad:=z5f (D l31) GG row labs mfits
 have has:=nF (z5d (D l32) GG)
 have check:=z2O (D l33) has bad
 have up:=up2 (nF (z5L (D l43)))
 have asked:=nF (z2P (D l44) T2)
 have lackV:=z2M (D l45) asked
 have ZA:=nF (z2N (D l46))
 have jk:=z0k (D l47) GG asked
 have moves:=z2K (D l48) T2 lackV ZA
 have words:=z2H (D l49) GG lackV ZA jk moves
 have gb:=nF (z5P (D l50))
 have next:=z46 (D l51) up moves gb
 have sw:=z5N (D l52) up words
 have searched:=Jg (D l53) GG T2 labs sw next
 have states:=z1A (D l54) check searched
 have town:=nF (z43 (D l67) GG)
 have draw:=nF (z4e (D l68) GG)
 have put:=z58 (P:=l.prog) (w:=w) (base:=base) DP GG
 have shown:=nF (z1B (D l70))
 have exch:=nF (z4d (D l58) GG)
 have nxt:=nF (z5b (D l59) GG)
 have to:=z5M (D l60) GG nxt exch
 have ord:=z59 (D l57) GG GS num
 have few:=z5e (D l61) ord to
 have madeo:=z2L (D l62) GG GS exch
 have short:=z2J (D l63) GG GS to madeo
 have swd:=z56 (D l64) states short
 have isw:=z4b (D l65) GG swd
 have groups:=nF (z1E (D l71))
 have shortl:=z1C (D l72) GG few
 exact z5c (z3u (st:=top 73) lk c k) GG town draw put.1 put.2 swd isw groups shortl shown
theorem z4B {K:ko} {H:Hp} {a:Addr} {xs:List V} (hO:Only H) (h:SqL K H a xs):Scr K H a xs:=by
 rcases h with h | h
 ·rcases h with h | ⟨o,h⟩
  ·rcases hO a with z | ⟨o,ys,z⟩
   ·rw [z] at h;cases h
   ·rw [z] at h;cases h
  ·exact .inl ⟨o,h⟩
 ·exact .inr h
theorem walk {l:PySem.W.OpenLaw} {q:Program} {loose:List Str} {XP:(Str→Option Value)→Heap→Prop} {YP:World→Heap→Prop} {d:DefRec} {K:Params→ko} (hn:l.most=some 63) (hdf:d.params.defaults=[])
  (hY:∀(w:World) (h:Heap),YP w h→(K w.params).In h)
  (F:∀(w:World) (mg:Str→Option Value) (fa:Addr) (h:Heap),(K w.params).In h→h.Ns mainGlobals mg→mg d.name=some (.ref fa)→
   ∃fd:FuncData,(∀(s:Shared) (u:Value),BindsTo s fd ⟨[u],[]⟩ [("_law_script",u)])∧∀base:Heap,(K w.params).In base→base.Ns mainGlobals mg→FnOk l.prog w (K w.params) mg base CX0 13 fa fd ["_law_script"] (z2c (K w.params))):
  PySem.W.WalkO q loose XP YP l.row.toRowW d [] (fun f vs=>PySem.call f vs):=
 L2.z3D (n:=63) (k:=13) (x:="_law_script") (CX:=fun _=>CX0) (sp:=fun w=>z2c (K w.params)) hn (by decide) hdf ⟨rfl,by decide,by decide,rfl⟩ hY F (fun _ _ a ns hl hO hS=>⟨a,ns,rfl,z4B hO hS,hl,fun _=>rfl⟩) fun _ _ _ _ _ z=>z
end My
namespace PySem.W.Fast
def tw5105673956185107153:=Prop
def tw9296360433889664002:=Prop
def tw16968176118458789586:=Prop
def tw9497945907656264259:=Prop
def tw316514102143019080:=Prop
def tw1176975735165151067:=Prop
def tw10426125643436316091:=Prop
def tw6397798872860733234:=Prop
def tw13402640891724300857:=Prop
def tw14869557710840242666:=Prop
def tw11297265578176366165:=Prop
def tw16479022912942432158:=Prop
def tw17643754061406199020:=Prop
def tw4584130408075211490:=Prop
def tw10667965978278278033:=Prop
def tw9601000219436670146:=Prop
def tw15452572443179084588:=Prop
def tw9156678896304099913:=Prop
def tw15886500619415505586:=Prop
def tw3520363519792060846:=Prop
def tw12048056826642495367:=Prop
def tw4419873286371483742:=Prop
def tw13436231055378572716:=Prop
def tw11930311979851757478:=Prop
def tw12798869161161681673:=Prop
def tw9774394379856643515:=Prop
def tw2257529940240947247:=Prop
def tw12533650973541477374:=Prop
def tw3101917741504857134:=Prop
def tw17704188385166749297:=Prop
def tw7523194637212750777:=Prop
def tw4361700775904427359:=Prop
def tw3092117133297227249:=Prop
def tw10299302589577801163:=Prop
def tw13840814423707232359:=Prop
def tw15515405784836723652:=Prop
def tw9563574807059059695:=Prop
def tw11519117686961666697:=Prop
def tw2947586027576077979:=Prop
def tw16932301668260661676:=Prop
def tw4157206338815638501:=Prop
def tw10982506577869168472:=Prop
def tw1349388230604553621:=Prop
def tw16472409268878238316:=Prop
def tw10700183255674453818:=Prop
def tw8164005668110941744:=Prop
def tw13426244417702134072:=Prop
def tw5681066748535004433:=Prop
def tw234749781942434899:=Prop
def tw529536973988259948:=Prop
def tw1906743188756502811:=Prop
def tw7875376050956498882:=Prop
def tw8426798971799828003:=Prop
def tw10335527622381539264:=Prop
def tw14501001857826371202:=Prop
def tw4026151001005817321:=Prop
def tw5030944203280556702:=Prop
def tw7328447075739424539:=Prop
def tw13517250619966689955:=Prop
def tw8933567498414919238:=Prop
def tw5623994078177797194:=Prop
def tw14191745827877185554:=Prop
def tw5312734613080425828:=Prop
def tw10155365746132046468:=Prop
def tw2563342435080024164:=Prop
def tw17849293660312457548:=Prop
def tw14613296582639449008:=Prop
def tw12018387782679925087:=Prop
def tw16745343075639119971:=Prop
def tw16749348522385944071:=Prop
def tw12996339429388188178:=Prop
def tw69414778264802052:=Prop
def tw16550838102048051623:=Prop
def tw12300527617525357084:=Prop
def tw4654963303733061616:=Prop
def tw734138898119960010:=Prop
def tw16950569574821323974:=Prop
def tw3172541193896328996:=Prop
def tw1541540961381408409:=Prop
def tw8789256864460932259:=Prop
def tw15622835117965313283:=Prop
def tw12673549619886724666:=Prop
def tw5388663596951873645:=Prop
def tw11849525312028181438:=Prop
def tw10785849952161257653:=Prop
def tw15943592676296772274:=Prop
def tw18269924539489903889:=Prop
def tw7317576523658780031:=Prop
def tw8621301723031713458:=Prop
def tw4248988804066548162:=Prop
def tw12068798485007620914:=Prop
def tw7363425622247834253:=Prop
def tw4203021270051977171:=Prop
def tw8934421753687110507:=Prop
def tw11418939547134857076:=Prop
def tw3094701115853657799:=Prop
def tw1385777081429181588:=Prop
def tw16279701975793424917:=Prop
def tw4179031660912777645:=Prop
def tw3857615796733700780:=Prop
def tw804092199982636349:=Prop
def tw13829591483307370896:=Prop
def tw17969941481158815411:=Prop
def tw15213048550514571353:=Prop
def tw17427895641331663283:=Prop
def tw17334881123488906936:=Prop
def tw4033379813872489195:=Prop
def tw14712817762504950641:=Prop
def tw8903238766108814736:=Prop
def tw539595736760451978:=Prop
def tw16149030986926176842:=Prop
def tw11622863634709415212:=Prop
def tw13478877428745155630:=Prop
def tw8436589768386056944:=Prop
def tw10097012582147076362:=Prop
def tw17721039672839981703:=Prop
def tw112567504061534027:=Prop
def tw9192171586001469603:=Prop
def tw9455475090630465045:=Prop
def tw2766794811542550618:=Prop
def tw17004574920194074796:=Prop
def tw10097206405949888370:=Prop
def tw17845374550828520631:=Prop
def tw17619882183920601743:=Prop
def tw14439765378166140033:=Prop
def tw8454840944936950519:=Prop
def tw18221076124747093969:=Prop
def tw10752687858943698738:=Prop
def tw13432873828021710899:=Prop
def tw7470021291188754609:=Prop
def tw17601101962401091345:=Prop
def tw14864845329073380503:=Prop
def tw12059592832596718669:=Prop
def tw16118103595353321548:=Prop
def tw11712190458185945011:=Prop
def tw12976177241038019767:=Prop
def tw13231743877010270464:=Prop
def tw14566440943485919492:=Prop
def tw14374603453287560736:=Prop
def tw15069716523494295500:=Prop
def tw14678158920106854735:=Prop
def tw14790834132378566595:=Prop
def tw802917404587063742:=Prop
def tw17546005709695080877:=Prop
def tw2294854397974045510:=Prop
def tw8909813903881261070:=Prop
def tw12221415409051222339:=Prop
def tw9685044298169568939:=Prop
def tw15845117809764550140:=Prop
def tw6664951462986138201:=Prop
def tw15679247252792206210:=Prop
def tw8160871880118814707:=Prop
def tw6951939212644042833:=Prop
def tw7805864855692585105:=Prop
def tw9715166753854553471:=Prop
def tw15632388027458123374:=Prop
def tw5613845454599061817:=Prop
def tw15431134087688302020:=Prop
def tw16416184580281828324:=Prop
def tw9897558803702562313:=Prop
def tw9508736203920968164:=Prop
def tw18363613149180712908:=Prop
def tw6585068141940680455:=Prop
def tw11990459337992974956:=Prop
def tw5036445103931068615:=Prop
def tw11732214188671553305:=Prop
def tw13792483299354683862:=Prop
def tw6834397320308548248:=Prop
def tw4954584648838934644:=Prop
def tw3482820431698744051:=Prop
def tw6511239469406747073:=Prop
def tw11002848052431835627:=Prop
def tw6737687440995333003:=Prop
def tw11289143093466461953:=Prop
def tw13989995598129119793:=Prop
def tw2852278927748849453:=Prop
def tw5427499738942290107:=Prop
def tw10042499479572932358:=Prop
def tw6731276024794131016:=Prop
def tw4626940704210403192:=Prop
def tw17996964024917085871:=Prop
def tw7042659310547366237:=Prop
def tw931956834028986255:=Prop
def tw17857563459279650048:=Prop
def tw4211952112222678748:=Prop
def tw8864380892348041232:=Prop
def tw1322031339247656150:=Prop
def tw7388713464098733815:=Prop
def tw12434779806091606683:=Prop
def tw13218621648322568166:=Prop
def tw12184380411685104690:=Prop
def tw10693841506766600124:=Prop
def tw15724745641170818534:=Prop
def tw5485572742587201778:=Prop
def tw13481268755573549168:=Prop
def tw17093224777342109595:=Prop
def tw4466625985826531108:=Prop
def tw8237626310708396552:=Prop
def tw17837415989878807268:=Prop
def tw9585978970863474492:=Prop
def tw4674102799890499726:=Prop
def tw5552461122284547459:=Prop
def tw6315216371427503177:=Prop
def tw15862806813707239167:=Prop
def tw5260856337621036202:=Prop
def tw9305391788130653963:=Prop
def tw8824595633291508535:=Prop
def tw1611551182742943237:=Prop
def tw14199714164133228370:=Prop
def tw9761588102954696855:=Prop
def tw14805814515597417852:=Prop
def tw726985913927333873:=Prop
def tw2385268686561707046:=Prop
def tw2335157872551914648:=Prop
def tw2927799364441409784:=Prop
def tw729466047920990731:=Prop
def tw15137687247720179910:=Prop
def tw17513604867990543079:=Prop
def tw16690704290473892871:=Prop
def tw8605165415444627158:=Prop
def tw5426448371682200115:=Prop
def tw5661640270340304354:=Prop
def tw17094580856887593759:=Prop
def tw3904583755211930517:=Prop
def tw17119971604622065936:=Prop
def tw14788362278542820120:=Prop
def tw107354629528850476:=Prop
def tw2648174423076098445:=Prop
def tw10069975712529536831:=Prop
def tw4425046354534653865:=Prop
def tw3373145609055282853:=Prop
def tw14722794537435163219:=Prop
def tw18431155831084640082:=Prop
def tw11069628954808310989:=Prop
def tw7942853410682446962:=Prop
def tw17698735102306075112:=Prop
def tw317932667124481529:=Prop
def tw11118301316682269745:=Prop
def tw15078095837771203109:=Prop
def tw11188117447681078326:=Prop
def tw4227517698962585424:=Prop
def tw11763852733077360975:=Prop
def tw8526028360262338249:=Prop
def tw10052001805573714066:=Prop
def tw1877378965866140348:=Prop
def tw306725001281121169:=Prop
def tw12694589447371642155:=Prop
def tw17882641709403210578:=Prop
def tw4153491320931672185:=Prop
def tw15545184769064153574:=Prop
def tw12067549021546063074:=Prop
def tw16396790404030501481:=Prop
def tw15755044616229629136:=Prop
def tw1647960591809683682:=Prop
def tw17878424488110687958:=Prop
def tw14267268813261638861:=Prop
def tw5835942142707902020:=Prop
def tw10015450608781386451:=Prop
def tw3345597093286824917:=Prop
def tw11786325122171474085:=Prop
def tw5680315236850328200:=Prop
def tw15223397061033166810:=Prop
def tw7343611390307366373:=Prop
def tw7340446101256811000:=Prop
def tw3121739546393284973:=Prop
def tw14323227155912201964:=Prop
def tw14734032772098568817:=Prop
def tw8553059368797141306:=Prop
def tw2962324470309885386:=Prop
def tw16266442582153907279:=Prop
def tw8667492640987031791:=Prop
def tw11320351676317602388:=Prop
def tw4693335582198445222:=Prop
def tw6793172497655745189:=Prop
def tw13952158723898717365:=Prop
def tw18012574323051992567:=Prop
def tw7524379617451308511:=Prop
def tw18167724695441219349:=Prop
def tw4968929673044707356:=Prop
def tw13887902116395311400:=Prop
def tw1391549112126926301:=Prop
def tw12712400820596877648:=Prop
def tw10846345724684618374:=Prop
def tw3934833063311361131:=Prop
def tw7076977106511060911:=Prop
def tw274189353798237994:=Prop
def tw2873748437651673626:=Prop
def tw10896712999787139778:=Prop
def tw3664731896753646195:=Prop
def tw6771182271545134960:=Prop
def tw4340971767527515617:=Prop
def tw10497823618577955822:=Prop
def tw644751248652905101:=Prop
def tw2680141511932349947:=Prop
def tw897888412878121761:=Prop
def tw14279065940840616024:=Prop
def tw4038909232737020655:=Prop
def tw18329075359065952542:=Prop
def tw1267704075650749254:=Prop
def tw16463793508043411602:=Prop
def tw5587484289544270231:=Prop
def tw8131721106225051767:=Prop
def tw3808584094389355786:=Prop
def tw15261137711255440680:=Prop
def tw10800367221633172730:=Prop
def tw10134030333460990790:=Prop
def tw2202087279664922802:=Prop
def tw16925118299729312639:=Prop
def tw3471986238504059686:=Prop
def tw4799189423077775474:=Prop
def tw17456480263006714056:=Prop
def tw14763428746477059428:=Prop
def tw1567247161763788871:=Prop
def tw7090585071989052306:=Prop
def tw5845538515087863352:=Prop
def tw438459731153329746:=Prop
def tw17338234738716814015:=Prop
def tw18145377420945558387:=Prop
def tw12325562205625792791:=Prop
def tw6623812351622530092:=Prop
def tw1998032249293215463:=Prop
def tw9161490523856799436:=Prop
def tw6760056911573607715:=Prop
def tw11300376045408061371:=Prop
def tw18277388166739348960:=Prop
def tw3133745999044795564:=Prop
def tw670427922429333600:=Prop
def tw3083371992184736890:=Prop
def tw10354477200866600673:=Prop
def tw7395645310213146516:=Prop
def tw3302770140995672700:=Prop
def tw6252695792229605141:=Prop
def tw12487779173672901959:=Prop
def tw10393078302967963895:=Prop
def tw6205024481829086969:=Prop
def tw16884622931589843948:=Prop
def tw5015507407206683207:=Prop
def tw8621336744817483243:=Prop
def tw14064692534454641163:=Prop
def tw11347631108264317165:=Prop
def tw11586196018267737339:=Prop
def tw4842887358765978389:=Prop
def tw14398365135244066966:=Prop
def tw6999941293234460784:=Prop
def tw17960406059949683352:=Prop
def tw8249347019533418915:=Prop
def tw1173414789623836638:=Prop
def tw7158441374720773216:=Prop
def tw133755455108545178:=Prop
def tw16286715671046524454:=Prop
def tw12514039047250868702:=Prop
def tw6788773261714906821:=Prop
def tw5609530884314319229:=Prop
def tw7945405709010385892:=Prop
def tw2484844197603217540:=Prop
def tw7717702957765121957:=Prop
def tw13350131943787299761:=Prop
def tw14731147920152588799:=Prop
def tw11887224372650548316:=Prop
def tw8078195926588453703:=Prop
def tw3822784309164373692:=Prop
def tw5674458297940323589:=Prop
def tw12523711969749109062:=Prop
def tw5011889884212318148:=Prop
def tw14245618210516037357:=Prop
def tw6784790241324674965:=Prop
def tw8697654515486363317:=Prop
def tw2456577590951144490:=Prop
def tw16607927582987124570:=Prop
def tw13949155002146243131:=Prop
def tw4589182232624314844:=Prop
def tw137710508599503078:=Prop
def tw16970792351503237766:=Prop
def tw14949513074056673275:=Prop
def tw13323373534744806615:=Prop
def tw15854262060937163188:=Prop
def tw17960848765466677729:=Prop
def tw17802128708061929859:=Prop
def tw9835382159548102362:=Prop
def tw14650769484350525481:=Prop
def tw5713610079918043996:=Prop
def tw1833547357909804662:=Prop
def tw3942624392001961204:=Prop
def tw6728313399510405491:=Prop
def tw2450569374399577549:=Prop
def tw6662249597110656733:=Prop
def tw11654023200298843171:=Prop
def tw11843833423457600547:=Prop
def tw15668819123027655523:=Prop
def tw15536387163757344236:=Prop
def tw16504757533647375273:=Prop
end PySem.W.Fast
open PySem PySem.W PyProof.Rows
set_option maxRecDepth 100000
set_option maxHeartbeats 0
open_top head for PySem.Challenge.rw_codemill_k57_whole_nothing_to_swap
theorem PySem.Challenge.cw_codemill_k57_whole_nothing_to_swap_holds : PySem.Challenge.rw_codemill_k57_whole_nothing_to_swap.Holds :=
 head (by
 k_fill
 refine My.walk (l:=PySem.Challenge.rw_codemill_k57_whole_nothing_to_swap) rfl rfl (fun w h Y=>PySem.W.kIn_of Y) ?F
 case F=>
  intro w mg fa h KX G hmg
  refine' My.all_mk KX G hmg ?_ ?_ ?_ ?_ ?_ ?_ ?_ ?_ ?_ ?_ ?_ ?_ ?_ ?_ ?_ ?_ ?_ ?_ ?_ ?_ ?_ ?_ ?_ ?_ ?_ ?_ ?_ ?_ ?_ ?_ ?_ ?_ ?_ ?_ ?_ ?_ ?_ ?_ ?_ ?_ ?_ ?_ ?_ ?_ ?_ ?_ ?_ ?_ ?_ ?_ ?_ ?_ ?_ ?_ ?_ ?_ ?_ ?_ ?_ ?_ ?_ ?_ ?_ ?_ ?_ ?_ ?_ ?_ ?_ ?_ ?_ ?_ ?_ ?_ ?_ ?_ ?_ ?_ ?_ ?_ ?_ ?_ ?_ ?_ ?_ ?_ ?_ ?_ ?_ ?_ ?_ ?_ ?_ ?_
  any_goals exact My.hdm (by k_is) (by k_is) (by k_is) (by k_is)
  any_goals exact My.cnm (by k_is) (by first | exact rfl | exact ⟨_,rfl⟩)
  any_goals exact My.ktm (by k_is) (by k_is) (by k_keys) (by first | exact rfl | decide) (by repeat (first | exact .nil | refine .cons ⟨⟨_,rfl⟩,(by first | exact rfl | exact ⟨_,rfl⟩)⟩ ?_))
  any_goals exact My.kum (by k_is) (by k_is) rfl rfl (by repeat (first | exact .nil | refine .cons (by first | exact rfl | exact ⟨_,rfl⟩) ?_)) (by decide)
  any_goals k_is
  any_goals first | exact rfl | exact ⟨_,rfl⟩ | k_keys | decide
  any_goals (repeat (first | exact .nil | refine .cons (by first | exact rfl | exact ⟨_,rfl⟩) ?_))
  any_goals k_is
  any_goals exact rfl)
