import PyProof.Rows.All
import Wide.All
import OpenK.AllK
import Wide.FinOn
import Lean
import PyProof.EqAt
import PyProof.EqKinds
import PyProof.TupleCall
import PyProof.DictItems
import PyProof.Rows.SortShell
import PyProof.ListRange
import PyProof.ZipIter
import PySem.Challenge.RW_codemill_k56_whole_swapped_tells
local macro_rules | `(tactic| trivial) => `(tactic| (dsimp only; decide +kernel))
local macro_rules | `(tactic| trivial) => `(tactic| decide +kernel)
abbrev ka:=@Bool.false_ne_true
abbrev ke:=@Nat.le_refl
abbrev kf:=@List.getElem?_eq_some_iff
abbrev kh:=@decide_eq_false
abbrev ki:=@decide_eq_true
abbrev kj:=@List.length_map
abbrev kl:=@List.length_append
abbrev km:=@PySem.W.mg_of
abbrev ko:=@List.mem_singleton
abbrev kq:=@List.not_mem_nil
abbrev ku:=@Nat.le_trans
abbrev ky:=PySem.W.Frag
abbrev kz:=@if_neg
abbrev kA:=@if_pos
abbrev kB:=@Option.some.inj
abbrev kC:=@of_decide_eq_true
abbrev kD:=@List.mem_cons
abbrev kE:=@List.size_toArray
abbrev kF:=@List.length_singleton
abbrev kG:=@List.mem_of_getElem?
abbrev kJ:=@List.map_append
abbrev kK:=@List.getElem?_eq_getElem
abbrev kL:=@Nat.lt_of_lt_of_le
abbrev kM:=@List.mem_append_right
abbrev kN:=@List.mem_append_left
abbrev kO:=@List.length_cons
abbrev kP:=@List.mem_cons_self
abbrev kQ:=@List.mem_cons_of_mem
abbrev kR:=@List.mem_append
abbrev kS:=@List.map_cons
abbrev kU:=@List.append_nil
abbrev kW:=@List.append_assoc
abbrev kX:=@Nat.le_of_eq
abbrev kY:=@Int.eq_ofNat_of_zero_le
abbrev kZ:=@Int.toNat_natCast
abbrev ya:=@Nat.lt_succ_self
abbrev yc:=@Bool.and_eq_true
abbrev yd:=@decide_eq_true_eq
abbrev ye:=@List.mem_map
abbrev yf:=@List.getElem?_append_left
abbrev yg:=@List.getElem?_append_right
set_option genInjectivity true
set_option genSizeOf false
set_option Elab.async false
set_option linter.all false
set_option maxRecDepth 100000
theorem aR (h:True=True:=by rfl) (k:(0:Nat)=0:=by decide):True:=trivial
namespace L2
open PySem PySem.Spec PyProof.Rows
abbrev Key:=Sum Int Str
noncomputable def z0x:Key→Value→Bool
 | .inl k,v=>Value.isInt k v
 | .inr x,v=>Value.isStrOf x v
noncomputable def keyH (w:World):Key→Int
 | .inl k=>hashInt k
 | .inr x=>hashStr w x
theorem zW:∀{k:Key} {v:Value},z0x k v=true→(∃i t,k=Sum.inl i∧v=Value.int i t)∨(∃x t,k=Sum.inr x∧v=Value.str x t)
 | .inl i,v,h=>by
  obtain ⟨t,e⟩:=Value.isInt_shape (k:=i) (v:=v) h
  exact .inl ⟨i,t,rfl,e⟩
 | .inr x,v,h=>by
  obtain ⟨t,e⟩:=Value.isStrOf_shape (x:=x) (v:=v) h
  exact .inr ⟨x,t,rfl,e⟩
theorem z3n (i:Int) (t:Tok):z0x (.inl i) (.int i t)=true:=by simp [z0x,Value.isInt]
theorem z3l (x:Str) (t:Tok):z0x (.inr x) (.str x t)=true:=by simp [z0x,Value.isStrOf]
theorem z8o (a b:Int):decide ((Sum.inl a:Key)=Sum.inl b)=(a == b):=by
 by_cases e:a=b
 ·subst e;simp
 ·have h:¬(Sum.inl a:Key)=Sum.inl b:=fun q=>e (Sum.inl.inj q)
  rw [kh h]
  exact (beq_eq_false_iff_ne.mpr e).symm
theorem z8l (a b:Str):decide ((Sum.inr a:Key)=Sum.inr b)=decide (a=b):=by
 by_cases e:a=b
 ·subst e;simp
 ·have h:¬(Sum.inr a:Key)=Sum.inr b:=fun q=>e (Sum.inr.inj q)
  rw [kh h,kh e]
theorem z8n (a:Int) (b:Str):decide ((Sum.inl a:Key)=Sum.inr b)=false:=kh (fun q=>nomatch q)
theorem z8m (a:Str) (b:Int):decide ((Sum.inr a:Key)=Sum.inl b)=false:=kh (fun q=>nomatch q)
noncomputable def zP (prog:Program) (w:World):PySem.KeyKind prog w Key where
 is:=z0x
 hash:=keyH w
 inj:=fun v a b ha hb=>by
  rcases zW ha with ⟨i,t,rfl,rfl⟩ | ⟨x,t,rfl,rfl⟩
  ·rcases zW hb with ⟨j,u,rfl,e⟩ | ⟨y,u,rfl,e⟩
   ·injection e with e1 _;rw [e1]
   ·exact nomatch e
  ·rcases zW hb with ⟨j,u,rfl,e⟩ | ⟨y,u,rfl,e⟩
   ·exact nomatch e
   ·injection e with e1 _;rw [e1]
 byValue:=fun k v h=>by
  rcases zW h with ⟨i,t,rfl,rfl⟩ | ⟨x,t,rfl,rfl⟩ <;> rfl
 pyHash:=fun hv h=>by
  rcases zW hv with ⟨i,t,rfl,rfl⟩ | ⟨x,t,rfl,rfl⟩
  ·exact wpAny_pyHash_int h
  ·exact wpAny_pyHash_str h
 eqBool:=fun hu hv h=>by
  rcases zW hu with ⟨i,t,rfl,rfl⟩ | ⟨x,t,rfl,rfl⟩
  ·rcases zW hv with ⟨j,u,rfl,rfl⟩ | ⟨y,u,rfl,rfl⟩
   ·rw [z8o] at h;exact wpAny_eqBool_int h
   ·rw [z8n] at h;exact SeqAt.EqAt.int_str i t y u _ _ _ _ h
  ·rcases zW hv with ⟨j,u,rfl,rfl⟩ | ⟨y,u,rfl,rfl⟩
   ·rw [z8m] at h;exact SeqAt.EqAt.str_int x t j u _ _ _ _ h
   ·rw [z8l] at h;exact wpAny_eqBool_str h
 «strs»:=fun k x t v h=>by
  rcases zW h with ⟨i,u,rfl,e⟩ | ⟨y,u,rfl,e⟩
  ·exact nomatch e
  ·injection e with e1 _
   subst e1
   cases v <;> rfl
theorem z0u (prog:Program) (w:World) (i:Int) (t:Tok):(zP prog w).is (.inl i) (.int i t)=true:=z3n i t
theorem z0t (prog:Program) (w:World) (x:Str) (t:Tok):(zP prog w).is (.inr x) (.str x t)=true:=z3l x t
end L2
namespace L2
open PySem PySem.Spec PyProof.Rows
inductive V where
 | non | bl (b:Bool) | int (i:Int) | str (x:Str) | byt (b:Array UInt8) | flt (b:UInt64) | ref (a:Addr) | ty (n:String)
 deriving DecidableEq
def RelV:V→Value→Prop
 | .non,u=>u=Value.none
 | .bl b,u=>u=Value.bool b
 | .int i,u=>∃t,u=Value.int i t
 | .str x,u=>∃t,u=Value.str x t
 | .byt b,u=>∃t,u=Value.bytes b t
 | .flt b,u=>∃t,u=Value.float b t
 | .ref a,u=>u=Value.ref a
 | .ty n,u=>u=Value.type n
abbrev Vals:List V→List Value→Prop:=Paired RelV
theorem Vals.length {xs:List V} {us:List Value} (r:Vals xs us):xs.length=us.length:=Paired.length r
theorem Vals.get:∀{xs:List V} {us:List Value} {i:Nat} {x:V},Vals xs us→xs[i]?=some x→∃u,us[i]?=some u∧RelV x u
 | _,_,_,_,.nil,e=>by simp at e
 | _,_,0,_,.cons r _,e=>by simp at e;subst e;exact ⟨_,rfl,r⟩
 | _,_,i+1,x,.cons _ t,e=>by
  obtain ⟨u,h1,h2⟩:=Vals.get (i:=i) (x:=x) t (by simpa using e)
  exact ⟨u,by simpa using h1,h2⟩
theorem Vals.set {x:V} {u:Value} (r:RelV x u):∀{xs:List V} {us:List Value} (i:Nat),Vals xs us→Vals (xs.set i x) (us.set i u)
 | _,_,_,.nil=>.nil
 | _,_,0,.cons _ t=>.cons r t
 | _,_,i+1,.cons q t=>.cons q (Vals.set r i t)
theorem Vals.append:∀{xs ys:List V} {us ws:List Value},Vals xs us→Vals ys ws→Vals (xs++ys) (us++ws)
 | _,_,_,_,.nil,s=>s
 | _,_,_,_,.cons r t,s=>.cons r (Vals.append t s)
theorem Vals.take:∀{xs:List V} {us:List Value} (n:Nat),Vals xs us→Vals (xs.take n) (us.take n)
 | _,_,0,_=>.nil
 | _,_,_+1,.nil=>.nil
 | _,_,n+1,.cons r t=>.cons r (Vals.take n t)
theorem Vals.drop:∀{xs:List V} {us:List Value} (n:Nat),Vals xs us→Vals (xs.drop n) (us.drop n)
 | _,_,0,r=>r
 | _,_,_+1,.nil=>.nil
 | _,_,n+1,.cons _ t=>Vals.drop n t
def RelO:Option V→Option Value→Prop
 | some v,some u=>RelV v u
 | none,none=>True
 | _,_=>False
def KV {κ:Type}:List (κ × V)→List (κ × Value)→Prop:=Paired fun (p:κ × V) (q:κ × Value)=>p.1=q.1∧RelV p.2 q.2
noncomputable def kV:Key→V
 | .inl i=>.int i
 | .inr x=>.str x
inductive HO where
 | lst (xs:List V)
 | tup (xs:List V)
 | dK (kvs:List (Key × V)) | dT (kvs:List (List Key × V))
 | set (S:Int→Bool) (n:Nat)
 | ins (C dx:Addr) (fs:List (Str × V))
 | own (x:Addr)
 | xd (fs:List (Str × V))
 | met (f x:Addr)
 | rng (lo hi:Int)
 | frz (o:Obj) (u:HO)
 | tbl (ps:Array Value)
 | ext (φ:Heap→Prop)
abbrev Hp:=Addr→Option HO
noncomputable def upd (H:Hp) (a:Addr) (o:HO):Hp:=fun b=>if b=a then some o else H b
theorem z6 {H:Hp} {a:Addr} {o:HO}:upd H a o a=some o:=by unfold upd;rw [kA rfl]
theorem zd {H:Hp} {a b:Addr} {o:HO} (h:b≠a):upd H a o b=H b:=by unfold upd;rw [kz h]
theorem z6e {H:Hp} {a:Addr} {o u:HO}:upd (upd H a o) a u=upd H a u:=by
 funext b;unfold upd;split <;> rfl
theorem zA {H:Hp} {a b:Addr} {o u:HO} (h:H a=some o) (h':H b=some u) (d:o≠u):a≠b:=by
 intro e;subst e;rw [h] at h';exact d (kB h')
theorem zc {H:Hp} {a b:Addr} {o:HO} (h:H a=some o) (h':H b=none):a≠b:=by
 intro e;subst e;rw [h] at h';cases h'
section
variable (P:Program) (w:World)
def qe (H:Hp) (h:Heap) (a:Addr):HO→Prop
 | .lst xs=>xs.length≤sizeLine∧∃(its:List Value) (n:Nat),Vals xs its∧h.get? a=some { cls:=.type "list",data:=.seq its.toArray n }
 | .tup xs=>xs.length≤sizeLine∧∃its:List Value,Vals xs its∧IsTup h a its.toArray
 | .dK kvs=>kvs.length≤sizeLine∧(a == sysModules)=false∧∃vs,KV kvs vs∧h.DictOf (zP P w) a vs
 | .dT kvs=>kvs.length≤sizeLine∧(a == sysModules)=false∧∃xs:List (List Key × Addr × Value),
   Paired (fun (p:List Key × V) (q:List Key × Addr × Value)=>p.1=q.1∧H q.2.1=some (.tup (p.1.map kV))∧RelV p.2 q.2.2) kvs xs∧
   ∃o es ep,h.get? a=some o∧o.ExactDict∧o.data=.dict es ep∧es.toList=xs.map (entryOfKey (tupleKind (zP P w)))∧(xs.map (·.1)).Nodup
 | .set S n=>h.SetOf (intKind P w) a S n
 | .ins C dx fs=>H dx=some (.own a)∧fs.length≤1000∧dx≠a∧h.get? a=some (PySem.W.instObj C dx)∧
   ∃mA,h.Ns1 dx mA∧(∀f,RelO (fs.lookup f) (mA f))∧PySem.Within mA (fs.map (·.1))
 | .own _=>∃o,h.get? a=some o
 | .xd fs=>∃mA,h.Ns1 a mA∧∀f,RelO (fs.lookup f) (mA f)
 | .rng lo hi=>∃t u v,h.get? a=some { cls:=.type "range",data:=.fields #[.int lo t,.int hi u,.int 1 v] }
 | .frz o u=>h.get? a=some o∧qe H h a u
 | .tbl ps=>h.get? a=some { cls:=.none,data:=.fields ps }
 | .met f x=>h.get? a=some (PySem.W.methodObj (.ref f) (.ref x))
 | .ext φ=>φ h∧(∃o,h.get? a=some o)∧∀h1 h2:Heap,φ h1→(∀o,h1.get? a=some o→h2.get? a=some o)→φ h2
def HOk (H:Hp) (h:Heap):Prop:=∀a o,H a=some o→qe P w H h a o
end
section
variable {P:Program} {w:World} {H H':Hp} {h h':Heap} {a:Addr} {o:HO}
theorem qe.lt (x:qe P w H h a o):a < h.objs.size:=by
 cases o with
 | lst xs=>obtain ⟨_,_,_,_,e⟩:=x;exact Heap.lt_size e
 | tup xs=>obtain ⟨_,_,_,p⟩:=x;exact p.lt
 | dK kvs=>obtain ⟨_,_,_,_,o,_,_,e,_⟩:=x;exact Heap.lt_size e
 | dT kvs=>obtain ⟨_,_,_,_,o,_,_,e,_⟩:=x;exact Heap.lt_size e
 | set S n=>obtain ⟨o,_,_,_,e,_⟩:=x;exact Heap.lt_size e
 | ins C dx fs=>obtain ⟨_,_,_,e,_⟩:=x;exact Heap.lt_size e
 | own y=>obtain ⟨_,e⟩:=x;exact Heap.lt_size e
 | xd fs=>obtain ⟨_,⟨_,_,_,e,_⟩,_⟩:=x;exact Heap.lt_size e
 | rng lo hi=>obtain ⟨_,_,_,e⟩:=x;exact Heap.lt_size e
 | frz ob u=>obtain ⟨e,_⟩:=x;exact Heap.lt_size e
 | tbl ps=>exact Heap.lt_size (show h.get? a=some _ from x)
 | met f y=>exact Heap.lt_size (show h.get? a=some _ from x)
 | ext φ=>obtain ⟨_,⟨_,e⟩,_⟩:=x;exact Heap.lt_size e
theorem Paired.mapP {α β:Type} {F G:α→β→Prop}:∀{l₁:List α} {l₂:List β},Paired F l₁ l₂→(∀a b,F a b→G a b)→Paired G l₁ l₂
 | _,_,.nil,_=>.nil
 | _,_,.cons r t,f=>.cons (f _ _ r) (Paired.mapP t f)
theorem qe.stay (x:qe P w H h a o) (k:∀b u,(b=a∨H b=some (.own a))→h.get? b=some u→h'.get? b=some u)
  (ho:∀b,H b=some (.own a)→H' b=some (.own a)) (ht:∀b xs,H b=some (.tup xs)→H' b=some (.tup xs)):qe P w H' h' a o:=by
 induction o with
 | lst xs=>obtain ⟨z,its,n,r,e⟩:=x;exact ⟨z,its,n,r,k _ _ (.inl rfl) e⟩
 | tup xs=>obtain ⟨z,its,r,ob,e,c⟩:=x;exact ⟨z,its,r,ob,k _ _ (.inl rfl) e,c⟩
 | dK kvs=>obtain ⟨z,y,vs,r,ob,es,ep,e,c⟩:=x;exact ⟨z,y,vs,r,ob,es,ep,k _ _ (.inl rfl) e,c⟩
 | dT kvs=>
  obtain ⟨z,y,xs,r,ob,es,ep,e,c⟩:=x
  exact ⟨z,y,xs,Paired.mapP r fun p q z=>⟨z.1,ht _ _ z.2.1,z.2.2⟩,ob,es,ep,k _ _ (.inl rfl) e,c⟩
 | set S n=>obtain ⟨ob,es,ep,t,e,c⟩:=x;exact ⟨ob,es,ep,t,k _ _ (.inl rfl) e,c⟩
 | ins C dx fs=>
  obtain ⟨d,z,ne,e,mA,⟨od,es,ep,e2,c⟩,r⟩:=x
  exact ⟨ho _ d,z,ne,k _ _ (.inl rfl) e,mA,⟨od,es,ep,k _ _ (.inr d) e2,c⟩,r⟩
 | own y=>obtain ⟨ob,e⟩:=x;exact ⟨ob,k _ _ (.inl rfl) e⟩
 | xd fs=>obtain ⟨mA,⟨od,es,ep,e,c⟩,r⟩:=x;exact ⟨mA,⟨od,es,ep,k _ _ (.inl rfl) e,c⟩,r⟩
 | rng lo hi=>obtain ⟨t,u,v,e⟩:=x;exact ⟨t,u,v,k _ _ (.inl rfl) e⟩
 | frz ob u ih=>obtain ⟨e,q⟩:=x;exact ⟨k _ _ (.inl rfl) e,ih q⟩
 | tbl ps=>
  have e:h.get? a=some { cls:=.none,data:=.fields ps }:=x
  show h'.get? a=some { cls:=.none,data:=.fields ps }
  exact k a _ (.inl rfl) e
 | met f y=>
  have e:h.get? a=some (PySem.W.methodObj (.ref f) (.ref y)):=x
  show h'.get? a=some (PySem.W.methodObj (.ref f) (.ref y))
  exact k a _ (.inl rfl) e
 | ext φ=>obtain ⟨p,⟨o,e⟩,st⟩:=x;exact ⟨st _ _ p fun o q=>k _ _ (.inl rfl) q,⟨o,k _ _ (.inl rfl) e⟩,st⟩
theorem HOk.lt (x:HOk P w H h) (e:H a=some o):a < h.objs.size:=(x a o e).lt
theorem HOk.fresh (x:HOk P w H h) (e:h.objs.size≤a):H a=none:=by
 cases q:H a with
 | none=>rfl
 | some u=>exact absurd (kL (x.lt q) e) (Nat.lt_irrefl _)
theorem HOk.kept (x:HOk P w H h) (k:∀b u,h.get? b=some u→h'.get? b=some u):HOk P w H h':=fun a o e=>
 (x a o e).stay (fun b u _ q=>k b u q) (fun _ q=>q) fun _ _ q=>q
theorem HOk.laid (x:HOk P w H h) (k:∀b u,h.get? b=some u→h'.get? b=some u) (hp:h.objs.size≤a) (new:qe P w (upd H a o) h' a o):HOk P w (upd H a o) h':=fun b u e=>by
 have hn:=x.fresh hp
 by_cases hb:b=a
 ·subst hb;rw [z6] at e;cases e;exact new
 ·rw [zd hb] at e
  exact (x b u e).stay (fun c v _ q=>k c v q) (fun c q=>by rw [zd (zc q hn)];exact q) fun c xs q=>by rw [zd (zc q hn)];exact q
end
def Rd (H:Hp) (a:Addr) (u:HO):Prop:=H a=some u∨∃o,H a=some (.frz o u)
theorem Rd.ok {P:Program} {w:World} {H:Hp} {h:Heap} {a:Addr} {u:HO} (r:Rd H a u) (x:HOk P w H h):qe P w H h a u:=by
 rcases r with r | ⟨o,r⟩
 ·exact x a u r
 ·obtain ⟨_,q⟩:=x a _ r
  exact q
def Mut:Option HO→Prop
 | some (.lst _)=>True
 | some (.dK _)=>True
 | some (.dT _)=>True
 | some (.set _ _)=>True
 | some (.ins _ _ _)=>True
 | some (.ext _)=>True
 | _=>False
section
variable {P:Program} {w:World} {H:Hp} {h h':Heap} {x e:Addr} {o':HO}
theorem HOk.write (ok:HOk P w H h) (mu:Mut (H x)) (he:e=x∨H e=some (.own x)) (k:∀b u,b≠e→h.get? b=some u→h'.get? b=some u) (heo:∃u,h'.get? e=some u)
  (new:qe P w (upd H x o') h' x o'):HOk P w (upd H x o') h':=fun b u q=>by
 have nown:∀c y,H c=some (.own y)→c≠x:=fun c y r z=>by subst z;rw [r] at mu;exact mu
 have ntup:∀c xs,H c=some (.tup xs)→c≠x:=fun c xs r z=>by subst z;rw [r] at mu;exact mu
 by_cases hb:b=x
 ·subst hb;rw [z6] at q;cases q;exact new
 ·rw [zd hb] at q
  by_cases hbe:b=e
  ·have q':H b=some (.own x):=by
    rcases he with z | z
    ·exact absurd (hbe.trans z) hb
    ·rw [hbe];exact z
   rw [q] at q';cases q'
   obtain ⟨v,hv⟩:=heo
   exact ⟨v,by rw [hbe];exact hv⟩
  ·refine (ok b u q).stay (fun c v hc r=>k c v ?_ r) (fun c r=>by rw [zd (nown c b r)];exact r) fun c xs r=>by rw [zd (ntup c xs r)];exact r
   rcases hc with rfl | hc
   ·exact hbe
   ·rintro rfl
    rcases he with z | z
    ·exact nown c b hc z
    ·rw [hc] at z;cases z;exact hb rfl
end
structure Un (fs ex:List Addr) (H H':Hp) (h h':Heap):Prop where
 keep:∀b o,h.get? b=some o→H b=none→b∉fs→b∉ex→h'.get? b=some o
 slot:∀b o,h.get? b=some o→H b=none→b∈fs→b∉ex→∃sl,h'.get? b=some { o with slots:=sl }
 free:∀b o,h.get? b=some o→H b=none→b∉ex→H' b=none
 there:∀b o,h.get? b=some o→b∉ex→∃o',h'.get? b=some o'
 tups:∀b xs,H b=some (.tup xs)→H' b=some (.tup xs)
 frzs:∀b o u,H b=some (.frz o u)→H' b=some (.frz o u)
 tbls:∀b ps,H b=some (.tbl ps)→∃more,H' b=some (.tbl (ps++more))
section
variable {fs fs' ex ex':List Addr} {H H1 H2:Hp} {h h1 h2 h':Heap} {a x e:Addr} {o:HO}
theorem Un.any (u:Un fs ex H H1 h h1) {b:Addr} {ob:Obj} (q:h.get? b=some ob) (n:H b=none) (hx:b∉ex):∃sl,h1.get? b=some { ob with slots:=sl }:=by
 by_cases hb:b∈fs
 ·exact u.slot b ob q n hb hx
 ·exact ⟨ob.slots,u.keep b ob q n hb hx⟩
theorem Un.kept (k:∀b u,h.get? b=some u→h'.get? b=some u):Un fs ex H H h h':=
 ⟨fun b ob q _ _ _=>k b ob q,fun b ob q _ _ _=>⟨ob.slots,k b ob q⟩,fun _ _ _ n _=>n,fun b ob q _=>⟨ob,k b ob q⟩,fun _ _ q=>q,fun _ _ _ q=>q,fun _ ps q=>⟨#[],by rw [q];simp⟩⟩
theorem Un.refl:Un fs ex H H h h:=Un.kept fun _ _ q=>q
theorem Un.laid (k:∀b u,h.get? b=some u→h'.get? b=some u) (hp:h.objs.size≤a) (hn:H a=none):Un fs ex H (upd H a o) h h' where
 keep:=fun b u q _ _ _=>k b u q
 slot:=fun b u q _ _ _=>⟨u.slots,k b u q⟩
 free:=fun b u q n _=>by rw [zd (Nat.ne_of_lt (kL (Heap.lt_size q) hp))];exact n
 there:=fun b u q _=>⟨u,k b u q⟩
 tups:=fun b xs q=>by rw [zd (zc q hn)];exact q
 frzs:=fun b u xs q=>by rw [zd (zc q hn)];exact q
 tbls:=fun b ps q=>⟨#[],by rw [zd (zc q hn),q];simp⟩
theorem Un.write (mu:Mut (H x)) (he:e=x∨H e=some (.own x)) (k:∀b u,b≠e→h.get? b=some u→h'.get? b=some u) (heo:∃u,h'.get? e=some u):Un fs ex H (upd H x o) h h':=by
 have hx:∀b,H b=none→b≠x:=fun b n z=>by subst z;rw [n] at mu;exact mu
 have hb:∀b,H b=none→b≠e:=fun b n z=>by
  subst z
  rcases he with r | r
  ·exact hx b n r
  ·rw [n] at r;cases r
 have hm:∀b u,H b=some u→¬Mut (some u)→b≠x:=fun b u q nm z=>by subst z;rw [q] at mu;exact nm mu
 refine ⟨fun b u q n _ _=>k b u (hb b n) q,fun b u q n _ _=>⟨u.slots,k b u (hb b n) q⟩,fun b u q n _=>by rw [zd (hx b n)];exact n,fun b u q _=>?_,
  fun b xs q=>by rw [zd (hm b _ q fun z=>z)];exact q,fun b u xs q=>by rw [zd (hm b _ q fun z=>z)];exact q,fun b ps q=>⟨#[],by rw [zd (hm b _ q fun z=>z),q];simp⟩⟩
 by_cases hbe:b=e
 ·subst hbe;exact heo
 ·exact ⟨u,k b u hbe q⟩
end
noncomputable def trk (h:Heap) (H:Hp):List Addr:=(List.range h.objs.size).filter fun a=>(H a).isSome
noncomputable def hidT (h:Heap) (H:Hp):Heap:=PySem.W.hideAll h (trk h H)
theorem z3v (h:Heap) (H:Hp):(hidT h H).objs.size=h.objs.size:=PySem.W.hideAll_size _ _
theorem z4J {h:Heap} {H:Hp} {b:Addr} {o:Obj} (e:h.get? b=some o) (n:H b=none):(hidT h H).get? b=some o:=
 PySem.W.hideAll_get _ e fun hm=>by
  have q:(H b).isSome=true:=(List.mem_filter.mp hm).2
  rw [n] at q;simp at q
theorem z6H {h:Heap} {H:Hp} {b:Addr} {o:Obj} (e:(hidT h H).get? b=some o):h.get? b=some o∧H b=none:=by
 have e':h.get? b=some o:=PySem.W.of_hideAll (trk h H) e
 refine ⟨e',?_⟩
 cases q:H b with
 | none=>rfl
 | some x=>
  have hm:b∈trk h H:=List.mem_filter.mpr ⟨List.mem_range.mpr (Heap.lt_size e'),by simp [q]⟩
  have z:(hidT h H).get? b=none:=PySem.W.hideAll_none (trk h H) hm
  rw [z] at e;cases e
end L2
namespace L2
open PySem PySem.Spec PyProof.Rows
structure Mod (K:ky) (mg:Str→Option Value) (base:Heap):Prop where
 kin:K.In base
 glob:base.Ns mainGlobals mg
 blt:∃mb,base.Ns builtinsNs mb∧∀x:Str,x≠"__name__"→mb x=bootBuiltins x
 nolimit:base.NoLimit
structure Cx where
 prog:Program
 w:World
 K:ky
 mg:Str→Option Value
 base:Heap
 A:Around
 N:List Str
 s₀:Shared
 H₀:Hp
 env:Env
 outer:List Env
 stack:List Env
 ex:List Addr
 fn:Str→Bool
 calm:Bool
 pn:List (Addr × Obj)
 xe:Value→Shared→Prop
noncomputable def frs (l:List Env):List Addr:=l.filterMap (·.frame)
noncomputable abbrev Cx.fs (X:Cx):List Addr:=frs X.outer
def Vis (sc:Scope) (x:Str):Prop:=sc.names.lookup x=some .local∨sc.names.lookup x=some .cell∨sc.names.lookup x=some .free
def Loc (sc:Scope) (x:Str):Prop:=sc.names.lookup x=some .local∨sc.names.lookup x=some .cell
def Look (env:Env) (h:Heap) (m:Str→Option Value) (x:Str) (u:Value):Prop:=
 (env.kindOf x=some .local∧m x=some u)∨((env.kindOf x=some .cell∨env.kindOf x=some .free)∧∃c,env.cells.lookup x=some c∧h.IsCell c (some u))
structure Cx.Ok (X:Cx):Prop where
 mod:Mod X.K X.mg X.base
 kind:X.env.scope.kind=.function
 glob:X.env.globals=mainGlobals
 blt:X.env.builtins=builtinsNs
 above:X.s₀.heap.objs.size≤X.env.locals
 inj:∀x y c,X.env.cells.lookup x=some c→X.env.cells.lookup y=some c→x=y
 has:∀x,(X.env.kindOf x=some .cell∨X.env.kindOf x=some .free)→∃c,X.env.cells.lookup x=some c
 cab:∀x c,X.fn x=true→X.env.cells.lookup x=some c→X.s₀.heap.objs.size≤c
 hd:X.calm=true→X.A.handled=none
 frames:X.A.frames=some X.stack
 stk:X.stack=X.outer∨(X.stack=X.env :: X.outer∧X.env.frame=some X.env.locals)
 exf:∀b∈X.ex,b≠X.env.locals∧∀x c,X.env.cells.lookup x=some c→c≠b
 bs:∀b o,X.base.get? b=some o→X.s₀.heap.get? b=some o∧X.H₀ b=none
 bsz:X.base.objs.size≤X.s₀.heap.objs.size
 noex:∀b o,X.base.get? b=some o→b∉X.ex
 exfs:∀b∈X.ex,b∉X.fs
 funs:X.s₀.heap.FunFrames X.base X.outer
 frf:∀b∈X.fs,X.H₀ b=none
structure Inv (X:Cx) (pins:List (Addr × Obj)) (σ:List (Option V)) (H:Hp) (s:Shared):Prop where
 ok:X.Ok
 os:s.os=X.s₀.os
 bare:AllBare s.gens
 base:Un X.fs X.ex X.H₀ H X.s₀.heap s.heap
 loc:∃m,s.heap.Ns X.env.locals m∧∀(i:Nat) (x:Str) (v:V),X.N[i]?=some x→σ[i]?=some (some v)→Vis X.env.scope x→∃u,RelV v u∧Look X.env s.heap m x u
 cell:∀x c,X.env.cells.lookup x=some c→∃v,s.heap.IsCell c v
 free:H X.env.locals=none
 freeC:∀x c,X.env.cells.lookup x=some c→H c=none
 pin:∀p∈X.pn++pins,s.heap.get? p.1=some p.2∧H p.1=none∧p.1≠X.env.locals∧p.1∉X.fs∧∀v,p.2.data≠.cell v
 hok:HOk X.prog X.w H s.heap
 len:σ.length=X.N.length
section
variable {X:Cx} {pins:List (Addr × Obj)} {σ:List (Option V)} {H H':Hp} {s:Shared} {h':Heap}
theorem Cx.Ok.nofr (ok:X.Ok) {b:Addr} {o:Obj} (e:X.base.get? b=some o):b∉X.fs:=fun hb=>by
 have:=(ok.funs.mem hb).1
 rw [e] at this;cases this
theorem Inv.bs (I:Inv X pins σ H s):∀b o,X.base.get? b=some o→s.heap.get? b=some o∧H b=none:=fun b o e=>
 ⟨I.base.keep b o (I.ok.bs b o e).1 (I.ok.bs b o e).2 (I.ok.nofr e) (I.ok.noex b o e),I.base.free b o (I.ok.bs b o e).1 (I.ok.bs b o e).2 (I.ok.noex b o e)⟩
theorem Inv.bk (I:Inv X pins σ H s):∀b o,X.base.get? b=some o→s.heap.get? b=some o:=fun b o e=>(I.bs b o e).1
theorem Inv.mod (I:Inv X pins σ H s):Mod X.K X.mg X.base:=I.ok.mod
theorem Inv.kIn (I:Inv X pins σ H s):X.K.In s.heap:=I.ok.mod.kin.keeps I.bk
theorem Inv.fr (I:Inv X pins σ H s):∃m,Fr X.base X.env.locals s.heap m:=
 let ⟨m,hn,_⟩:=I.loc
 ⟨m,hn,I.bk,ku I.ok.bsz I.ok.above⟩
theorem Inv.lt (I:Inv X pins σ H s):X.env.locals < s.heap.objs.size:=let ⟨_,hn,_⟩:=I.loc;hn.lt
theorem Inv.sz (I:Inv X pins σ H s):X.s₀.heap.objs.size≤s.heap.objs.size:=ku I.ok.above (Nat.le_of_lt I.lt)
theorem Inv.nofs (I:Inv X pins σ H s) {a:Addr} (h:s.heap.objs.size≤a):a∉X.fs:=fun hb=>by
 obtain ⟨_,o,ho,_⟩:=I.ok.funs.mem hb
 exact absurd (kL (Heap.lt_size ho) (ku I.sz h)) (Nat.lt_irrefl _)
theorem Inv.cne (I:Inv X pins σ H s):∀x c,X.env.cells.lookup x=some c→c≠X.env.locals:=fun x c e z=>by
 obtain ⟨v,o,ho,hd⟩:=I.cell x c e
 obtain ⟨m,⟨o',es,ep,ho',hd',_⟩,_⟩:=I.loc
 rw [z,ho'] at ho;cases ho;rw [hd'] at hd;cases hd
theorem Inv.funs (I:Inv X pins σ H s):s.heap.FunFrames X.base X.outer:=by
 have all:∀(l:List Env),(∀b∈frs l,b∈X.fs)→X.s₀.heap.FunFrames X.base l→s.heap.FunFrames X.base l:=by
  intro l
  induction l with
  | nil=>intro _ _;trivial
  | cons env r ih=>
   intro hs hl
   obtain ⟨hk,⟨L,o,hf,hn,ho,hd⟩,hr⟩:=hl
   have hL:L∈X.fs:=hs L (by unfold frs;rw [List.filterMap_cons,hf];exact kP)
   obtain ⟨sl,e⟩:=I.base.slot L o ho (I.ok.frf L hL) hL fun z=>I.ok.exfs L z hL
   exact ⟨hk,⟨L,_,hf,hn,e,hd⟩,ih (fun b hb=>hs b (by unfold frs;rw [List.filterMap_cons,hf];exact kQ _ hb)) hr⟩
 exact all X.outer (fun _ hb=>hb) I.ok.funs
theorem Inv.stack (I:Inv X pins σ H s):s.heap.FunFrames X.base X.stack:=by
 rcases I.ok.stk with e | ⟨e,hf⟩
 ·rw [e];exact I.funs
 ·rw [e]
  obtain ⟨m,hn,_⟩:=I.loc
  refine .cons (by rw [I.ok.kind];decide) hf hn ?_ I.funs
  exact Heap.get?_none_of_le (ku I.ok.bsz I.ok.above)
theorem Inv.stkSub (I:Inv X pins σ H s):∀b∈frs X.stack,b∈X.env.locals :: X.fs:=fun b hb=>by
 rcases I.ok.stk with e | ⟨e,hf⟩
 ·rw [e] at hb;exact kQ _ hb
 ·rw [e] at hb
  unfold frs at hb
  rw [List.filterMap_cons,hf] at hb
  exact hb
theorem Inv.stkFree (I:Inv X pins σ H s):∀b∈frs X.stack,H b=none:=fun b hb=>by
 rcases kD.mp (I.stkSub b hb) with e | hb
 ·rw [e];exact I.free
 ·obtain ⟨_,o,ho,_⟩:=I.ok.funs.mem hb
  exact I.base.free b o ho (I.ok.frf b hb) fun z=>I.ok.exfs b z hb
theorem Inv.step {g':Array GenState} {t':Nat} {d':Drawn} {ch:List Addr} (I:Inv X pins σ H s)
  (hch:∀b∈ch,(b∈X.ex∨X.s₀.heap.objs.size≤b)∧b≠X.env.locals∧(∀x c,X.env.cells.lookup x=some c→c≠b)∧∀p∈X.pn++pins,p.1≠b)
  (keep:∀b o,b≠X.env.locals→b∉X.fs→b∉ch→s.heap.get? b=some o→H b=none→h'.get? b=some o)
  (slot:∀b o,b≠X.env.locals→b∈X.fs→b∉ch→s.heap.get? b=some o→H b=none→∃sl,h'.get? b=some { o with slots:=sl }) (free:∀b o,b∉ch→s.heap.get? b=some o→H b=none→H' b=none)
  (there:∀b o,b∉ch→s.heap.get? b=some o→∃o',h'.get? b=some o')
  (tups:∀b xs,H b=some (.tup xs)→H' b=some (.tup xs)) (frzs:∀b o u,H b=some (.frz o u)→H' b=some (.frz o u)) (tbls:∀b ps,H b=some (.tbl ps)→∃more,H' b=some (.tbl (ps++more)))
  (ns:∀m,s.heap.Ns X.env.locals m→h'.Ns X.env.locals m) (hok:HOk X.prog X.w H' h') (hg:AllBare g'):
  Inv X pins σ H' { s with heap:=h',gens:=g',drawn:=d',toks:=t' }:=by
 have neL:∀b o,X.s₀.heap.get? b=some o→b≠X.env.locals:=fun b o e=>Nat.ne_of_lt (kL (Heap.lt_size e) I.ok.above)
 have neC:∀b o,X.s₀.heap.get? b=some o→b∉X.ex→b∉ch:=fun b o e hx hb=>by
  rcases (hch b hb).1 with z | z
  ·exact hx z
  ·exact absurd (kL (Heap.lt_size e) z) (Nat.lt_irrefl _)
 have cellK:∀x c,X.env.cells.lookup x=some c→∀v,s.heap.IsCell c v→h'.IsCell c v:=fun x c e v ⟨o,ho,hd⟩=>by
  have nch:c∉ch:=fun z=>(hch c z).2.2.1 x c e rfl
  by_cases hc:c∈X.fs
  ·obtain ⟨sl,q⟩:=slot c o (I.cne x c e) hc nch ho (I.freeC x c e)
   exact ⟨_,q,hd⟩
  ·exact ⟨o,keep c o (I.cne x c e) hc nch ho (I.freeC x c e),hd⟩
 refine ⟨I.ok,I.os,hg,⟨fun b o e n hb hx=>?_,fun b o e n hb hx=>?_,fun b o e n hx=>?_,fun b o e hx=>?_,fun b xs e=>tups b xs (I.base.tups b xs e),fun b o xs e=>frzs b o xs (I.base.frzs b o xs e),fun b ps e=>?_⟩,?_,fun x c e=>?_,?_,fun x c e=>?_,fun p hp=>?_,hok,I.len⟩
 ·exact keep b o (neL b o e) hb (neC b o e hx) (I.base.keep b o e n hb hx) (I.base.free b o e n hx)
 ·obtain ⟨sl,e1⟩:=I.base.slot b o e n hb hx
  obtain ⟨sl',e2⟩:=slot b _ (neL b o e) hb (neC b o e hx) e1 (I.base.free b o e n hx)
  exact ⟨sl',e2⟩
 ·obtain ⟨o',e1⟩:=I.base.there b o e hx
  exact free b o' (neC b o e hx) e1 (I.base.free b o e n hx)
 ·obtain ⟨o',e1⟩:=I.base.there b o e hx
  exact there b o' (neC b o e hx) e1
 ·obtain ⟨m1,e1⟩:=I.base.tbls b ps e
  obtain ⟨m2,e2⟩:=tbls b _ e1
  exact ⟨m1++m2,by rw [e2,Array.append_assoc]⟩
 ·obtain ⟨m,hn,hl⟩:=I.loc
  refine ⟨m,ns m hn,fun i x v e1 e2 e3=>?_⟩
  obtain ⟨u,r,l⟩:=hl i x v e1 e2 e3
  refine ⟨u,r,?_⟩
  rcases l with l | ⟨k,c,e,z⟩
  ·exact .inl l
  ·exact .inr ⟨k,c,e,cellK x c e _ z⟩
 ·obtain ⟨v,z⟩:=I.cell x c e
  exact ⟨v,cellK x c e v z⟩
 ·obtain ⟨m,⟨o,_,_,ho,_⟩,_⟩:=I.loc
  exact free _ o (fun z=>(hch _ z).2.1 rfl) ho I.free
 ·obtain ⟨v,o,ho,hd⟩:=I.cell x c e
  exact free c o (fun z=>(hch c z).2.2.1 x c e rfl) ho (I.freeC x c e)
 ·obtain ⟨e,n,ne,nf,d⟩:=I.pin p hp
  have nch:p.1∉ch:=fun z=>(hch p.1 z).2.2.2 p hp rfl
  exact ⟨keep p.1 p.2 ne nf nch e n,free p.1 p.2 nch e n,ne,nf,d⟩
theorem Inv.un {t':Nat} (I:Inv X pins σ H s) (u:Un X.fs [] H H' s.heap h') (hok:HOk X.prog X.w H' h'):Inv X pins σ H' { s with heap:=h',toks:=t' }:=by
 obtain ⟨m,⟨o,es,ep,ho,r⟩,_⟩:=id I.loc
 obtain ⟨sl,hL⟩:=u.any ho I.free (by simp)
 exact I.step (g':=s.gens) (d':=s.drawn) (ch:=[]) (fun _ z=>nomatch z) (fun b o _ hb _ e n=>u.keep b o e n hb (by simp)) (fun b o _ hb _ e n=>u.slot b o e n hb (by simp)) (fun b o _ e n=>u.free b o e n (by simp)) (fun b o _ e=>u.there b o e (by simp)) u.tups u.frzs u.tbls (fun m' hm=>by
  obtain ⟨o',es',ep',ho',r'⟩:=hm
  rw [ho] at ho';cases ho'
  exact ⟨_,es',ep',hL,r'⟩) hok I.bare
theorem Inv.call {g':Array GenState} {t':Nat} {d':Drawn} {ch:List Addr} (I:Inv X pins σ H s) (u:Un (frs X.stack) ch H H' s.heap h') (hok:HOk X.prog X.w H' h') (hg:AllBare g')
  (hch:∀b∈ch,(b∈X.ex∨X.s₀.heap.objs.size≤b)∧b≠X.env.locals∧(∀x c,X.env.cells.lookup x=some c→c≠b)∧∀p∈X.pn++pins,p.1≠b):
  Inv X pins σ H' { s with heap:=h',gens:=g',drawn:=d',toks:=t' }:=by
 obtain ⟨m,⟨o,es,ep,ho,r⟩,_⟩:=id I.loc
 obtain ⟨sl,hL⟩:=u.any ho I.free fun z=>(hch _ z).2.1 rfl
 exact I.step (ch:=ch) hch (fun b o hL hb hc e n=>u.keep b o e n (fun z=>(kD.mp (I.stkSub b z)).elim hL hb) hc) (fun b o _ _ hc e n=>u.any e n hc) (fun b o hc e n=>u.free b o e n hc) (fun b o hc e=>u.there b o e hc) u.tups u.frzs u.tbls (fun m' hm=>by
  obtain ⟨o',es',ep',ho',r'⟩:=hm
  rw [ho] at ho';cases ho'
  exact ⟨_,es',ep',hL,r'⟩) hok hg
theorem Inv.turned {t':Nat} {it:Addr} (I:Inv X pins σ H s) (k:∀b o,b≠it→s.heap.get? b=some o→h'.get? b=some o) (hn:H it=none) (hL:it≠X.env.locals)
  (h1:it∈X.ex∨X.s₀.heap.objs.size≤it) (h2:∀x c,X.env.cells.lookup x=some c→c≠it) (h3:∀p∈X.pn++pins,p.1≠it):Inv X pins σ H { s with heap:=h',toks:=t' }:=by
 have nit:∀b u,H b=some u→b≠it:=fun b u e z=>by rw [z,hn] at e;cases e
 refine I.step (g':=s.gens) (d':=s.drawn) (ch:=[it]) (fun b hb=>?_) (fun b o _ _ hc e _=>k b o (fun z=>hc (by simp [z])) e) (fun b o _ _ hc e _=>⟨o.slots,k b o (fun z=>hc (by simp [z])) e⟩) (fun _ _ _ _ n=>n)
  (fun b o hc e=>⟨o,k b o (fun z=>hc (by simp [z])) e⟩) (fun _ _ e=>e) (fun _ _ _ e=>e) (fun b ps e=>⟨#[],by rw [e];simp⟩) (fun m hm=>?_) (fun b u e=>?_) I.bare
 ·have e:b=it:=by simpa using hb
  subst e
  exact ⟨h1,hL,h2,h3⟩
 ·obtain ⟨o,es,ep,ho,r⟩:=hm
  exact ⟨o,es,ep,k _ o (Ne.symm hL) ho,r⟩
 ·refine (I.hok b u e).stay (fun c v hc q=>k c v ?_ q) (fun _ q=>q) fun _ _ q=>q
  rcases hc with z | z
  ·rw [z];exact nit b u e
  ·exact nit c _ z
theorem Inv.tok (I:Inv X pins σ H s) (t:Nat):Inv X pins σ H { s with toks:=t }:=I.un (h':=s.heap) (t':=t) Un.refl I.hok
theorem Inv.kept {t':Nat} (I:Inv X pins σ H s) (k:∀b u,s.heap.get? b=some u→h'.get? b=some u):Inv X pins σ H { s with heap:=h',toks:=t' }:=I.un (Un.kept k) (I.hok.kept k)
theorem Inv.laid {a:Addr} {o:HO} {t':Nat} (I:Inv X pins σ H s) (k:∀b u,s.heap.get? b=some u→h'.get? b=some u) (hp:s.heap.objs.size≤a) (new:qe X.prog X.w (upd H a o) h' a o):
  Inv X pins σ (upd H a o) { s with heap:=h',toks:=t' }:=I.un (Un.laid k hp (I.hok.fresh hp)) (I.hok.laid k hp new)
theorem Inv.write {x e:Addr} {o:HO} {t':Nat} (I:Inv X pins σ H s) (mu:Mut (H x)) (he:e=x∨H e=some (.own x)) (k:∀b u,b≠e→s.heap.get? b=some u→h'.get? b=some u) (heo:∃u,h'.get? e=some u)
  (new:qe X.prog X.w (upd H x o) h' x o):Inv X pins σ (upd H x o) { s with heap:=h',toks:=t' }:=I.un (Un.write mu he k heo) (I.hok.write mu he k heo new)
theorem Inv.pins_of {pins':List (Addr × Obj)} (I:Inv X pins σ H s) (h:∀p∈pins',s.heap.get? p.1=some p.2∧H p.1=none∧p.1≠X.env.locals∧p.1∉X.fs∧∀v,p.2.data≠.cell v):Inv X pins' σ H s:=
 ⟨I.ok,I.os,I.bare,I.base,I.loc,I.cell,I.free,I.freeC,fun p hp=>(kR.mp hp).elim (fun z=>I.pin p (kN _ z)) (h p),I.hok,I.len⟩
theorem z18 {N:List Str} (hN:N.Nodup) {i j:Nat} {x:Str} (a:N[i]?=some x) (b:N[j]?=some x):i=j:=by
 obtain ⟨h1,e1⟩:=kf.mp a
 obtain ⟨h2,e2⟩:=kf.mp b
 exact (List.getElem_inj hN).mp (e1.trans e2.symm)
theorem Jl {M:Model} {A:Around} {E:Value→Shared→Prop} {i:Nat} {x:Str} {v:V} {u:Value} {Q:Unit→Shared→Prop} (I:Inv X pins σ H s) (hN:X.N.Nodup) (hi:X.N[i]?=some x) (hx:Loc X.env.scope x) (r:RelV v u)
  (h:∀s',Inv X pins (σ.set i (some v)) H s'→(∃a,Heap.SameBut a s.heap s'.heap∧(a=X.env.locals∨X.env.cells.lookup x=some a))→Q () s') (hf:X.fn x=true∨X.env.scope.names.lookup x=some .local:=by first | exact .inl rfl | exact .inr rfl | assumption):wpAny M A (storeName X.env x u) Q E s:=by
 obtain ⟨m,hn,hl⟩:=id I.loc
 have hcls:(X.env.scope.kind == .class||(X.env.scope.kind == .module&&X.env.locals != X.env.globals))=false:=by rw [I.ok.kind];rfl
 have hiσ:i < σ.length:=by rw [I.len];exact (kf.mp hi).1
 have cne:=I.cne
 have tracked:∀{a:Addr} {h':Heap},(∃o,s.heap.get? a=some o∧H a=none)→Heap.SameBut a s.heap h'→HOk X.prog X.w H h':=fun {a h'} ha hs b ob e=>by
  obtain ⟨_,_,hfree⟩:=ha
  refine (I.hok b ob e).stay (fun c w' hc q=>(hs.2 c ?_).trans q) (fun _ q=>q) fun _ _ q=>q
  rintro rfl
  rcases hc with rfl | hc
  ·rw [hfree] at e;cases e
  ·rw [hfree] at hc;cases hc
 rcases hx with hk | hk
 ·refine wpAny_storeName_local hk hn (fun h' hn' hs=>?_) hcls
  obtain ⟨oL,_,_,hoL,_⟩:=id hn
  refine h _ ⟨I.ok,I.os,I.bare,⟨fun b o e n hb hx=>?_,fun b o e n hb hx=>?_,I.base.free,fun b o e hx=>?_,I.base.tups,I.base.frzs,I.base.tbls⟩,⟨_,hn',fun j y v' e1 e2 e3=>?_⟩,fun y c e=>?_,I.free,I.freeC,fun p hp=>?_,tracked ⟨oL,hoL,I.free⟩ hs,by simpa using I.len⟩ ⟨_,hs,.inl rfl⟩
  ·exact (hs.2 b (Nat.ne_of_lt (kL (Heap.lt_size e) I.ok.above))).trans (I.base.keep b o e n hb hx)
  ·obtain ⟨sl,e1⟩:=I.base.slot b o e n hb hx
   exact ⟨sl,(hs.2 b (Nat.ne_of_lt (kL (Heap.lt_size e) I.ok.above))).trans e1⟩
  ·obtain ⟨o',e1⟩:=I.base.there b o e hx
   exact ⟨o',(hs.2 b (Nat.ne_of_lt (kL (Heap.lt_size e) I.ok.above))).trans e1⟩
  ·by_cases hj:j=i
   ·subst hj
    rw [hi] at e1;cases e1
    rw [List.getElem?_set_self hiσ] at e2
    cases e2
    exact ⟨u,r,.inl ⟨hk,by simp⟩⟩
   ·rw [List.getElem?_set_ne (Ne.symm hj)] at e2
    obtain ⟨u',r',q⟩:=hl j y v' e1 e2 e3
    refine ⟨u',r',?_⟩
    rcases q with ⟨k,e⟩ | ⟨k,c,e,z⟩
    ·refine .inl ⟨k,?_⟩
     have:y≠x:=fun e=>hj (z18 hN e1 (e▸hi))
     simp [this,e]
    ·exact .inr ⟨k,c,e,z.sameBut hs (cne y c e)⟩
  ·obtain ⟨w',z⟩:=I.cell y c e
   exact ⟨w',z.sameBut hs (cne y c e)⟩
  ·obtain ⟨e,n,ne,nf,d⟩:=I.pin p hp
   exact ⟨(hs.2 p.1 ne).trans e,n,ne,nf,d⟩
 ·have hfn:X.fn x=true:=by
   rcases hf with z | z
   ·exact z
   ·rw [z] at hk;cases hk
  obtain ⟨c,hc⟩:=I.ok.has x (.inl hk)
  obtain ⟨w',z⟩:=I.cell x c hc
  refine wpAny_storeName_cell I.ok.kind hk hc z (fun h' hc' hs=>?_)
  obtain ⟨oc,hoc,hocd⟩:=id z
  refine h { s with heap:=h' } ⟨I.ok,I.os,I.bare,⟨fun b o e n hb hx=>?_,fun b o e n hb hx=>?_,I.base.free,fun b o e hx=>?_,I.base.tups,I.base.frzs,I.base.tbls⟩,⟨m,hn.sameBut hs (Ne.symm (cne x c hc)),fun j y v' e1 e2 e3=>?_⟩,fun y c' e=>?_,I.free,I.freeC,fun p hp=>?_,tracked ⟨oc,hoc,I.freeC x c hc⟩ hs,by simpa using I.len⟩ ⟨c,hs,.inr hc⟩
  ·exact (hs.2 b (Nat.ne_of_lt (kL (Heap.lt_size e) (I.ok.cab x c hfn hc)))).trans (I.base.keep b o e n hb hx)
  ·obtain ⟨sl,e1⟩:=I.base.slot b o e n hb hx
   exact ⟨sl,(hs.2 b (Nat.ne_of_lt (kL (Heap.lt_size e) (I.ok.cab x c hfn hc)))).trans e1⟩
  ·obtain ⟨o',e1⟩:=I.base.there b o e hx
   exact ⟨o',(hs.2 b (Nat.ne_of_lt (kL (Heap.lt_size e) (I.ok.cab x c hfn hc)))).trans e1⟩
  ·by_cases hj:j=i
   ·subst hj
    rw [hi] at e1;cases e1
    rw [List.getElem?_set_self hiσ] at e2
    cases e2
    exact ⟨u,r,.inr ⟨.inl hk,c,hc,hc'⟩⟩
   ·rw [List.getElem?_set_ne (Ne.symm hj)] at e2
    obtain ⟨u',r',q⟩:=hl j y v' e1 e2 e3
    refine ⟨u',r',?_⟩
    rcases q with q | ⟨k,c',e,z'⟩
    ·exact .inl q
    ·refine .inr ⟨k,c',e,z'.sameBut hs ?_⟩
     rintro rfl
     exact hj (z18 hN e1 (I.ok.inj _ _ _ e hc▸hi))
  ·by_cases hcc:c'=c
   ·subst hcc;exact ⟨_,hc'⟩
   ·obtain ⟨w2,z2⟩:=I.cell y c' e
    exact ⟨w2,z2.sameBut hs hcc⟩
  ·obtain ⟨e,n,ne,nf,d⟩:=I.pin p hp
   refine ⟨(hs.2 p.1 ?_).trans e,n,ne,nf,d⟩
   intro q
   rw [q,hoc] at e
   have q':oc=p.2:=kB e
   exact d w' (by rw [←q'];exact hocd)
theorem jU {M:Model} {A:Around} {E:Value→Shared→Prop} {i:Nat} {x:Str} {v:V} {u:Value} {Q:Unit→Shared→Prop} (I:Inv X pins σ H s) (hN:X.N.Nodup) (hi:X.N[i]?=some x) (hx:Loc X.env.scope x) (r:RelV v u)
  (h:∀s',Inv X pins (σ.set i (some v)) H s'→Q () s') (hf:X.fn x=true∨X.env.scope.names.lookup x=some .local:=by first | exact .inl rfl | exact .inr rfl | assumption):wpAny M A (storeName X.env x u) Q E s:=
 Jl I hN hi hx r (fun s' I' _=>h s' I') hf
theorem Inv.call' {s':Shared} {ch:List Addr} (I:Inv X pins σ H s) (ho:s'.os=s.os) (u:Un (frs X.stack) ch H H' s.heap s'.heap) (hok:HOk X.prog X.w H' s'.heap) (hg:AllBare s'.gens)
  (hch:∀b∈ch,(b∈X.ex∨X.s₀.heap.objs.size≤b)∧b≠X.env.locals∧(∀x c,X.env.cells.lookup x=some c→c≠b)∧∀p∈X.pn++pins,p.1≠b):Inv X pins σ H' s':=by
 obtain ⟨h',g',d',t',o'⟩:=s'
 have e:o'=s.os:=ho
 subst e
 exact I.call (g':=g') (t':=t') (d':=d') u hok hg hch
end
abbrev XK:=Value→Option Addr→Hp→Prop
abbrev St:=List (Option V)
abbrev VK:=V→Hp→Prop
abbrev TE:=St→Hp→VK→Prop
abbrev TT:=St→Hp→(Bool→Hp→Prop)→Prop
abbrev TA:=St→Hp→(List V→Hp→Prop)→Prop
structure Ends where
 nx:St→Hp→Prop
 rt:VK
 bk:St→Hp→Prop:=fun _ _=>False
 ct:St→Hp→Prop:=fun _ _=>False
abbrev TS:=Ends→St→Hp→Prop
def EP (X:Cx) (pins:List (Addr × Obj)) (σ:St) (Q:VK) (u:Value) (s':Shared):Prop:=∃v H',Inv X pins σ H' s'∧RelV v u∧Q v H'
def TP (X:Cx) (pins:List (Addr × Obj)) (σ:St) (Q:Bool→Hp→Prop) (b:Bool) (s':Shared):Prop:=∃H',Inv X pins σ H' s'∧Q b H'
def AP (X:Cx) (pins:List (Addr × Obj)) (σ:St) (Q:List V→Hp→Prop) (us:List Value) (s':Shared):Prop:=∃vs H',Inv X pins σ H' s'∧Vals vs us∧Q vs H'
def SP (X:Cx) (pins:List (Addr × Obj)) (D:Ends) (f:Flow) (s':Shared):Prop:=
 match f with
 | .next=>∃σ' H',Inv X pins σ' H' s'∧D.nx σ' H'
 | .brk=>∃σ' H',Inv X pins σ' H' s'∧D.bk σ' H'
 | .cont=>∃σ' H',Inv X pins σ' H' s'∧D.ct σ' H'
 | .ret u=>∃v σ' H',Inv X pins σ' H' s'∧RelV v u∧D.rt v H'
def PE (X:Cx) (e:Expr) (t:TE):Prop:=
 ∀(pins:List (Addr × Obj)) (s:Shared) (σ:St) (H:Hp) (Q:VK),Inv X pins σ H s→t σ H Q→wpAny (model X.prog X.w) X.A (eval e X.env) (EP X pins σ Q) X.xe s
def PT (X:Cx) (e:Expr) (t:TT):Prop:=
 ∀(pins:List (Addr × Obj)) (s:Shared) (σ:St) (H:Hp) (Q:Bool→Hp→Prop),Inv X pins σ H s→t σ H Q→wpAny (model X.prog X.w) X.A (isTrue e X.env (eval e X.env)) (TP X pins σ Q) X.xe s
def PW (X:Cx) (e:Expr) (t:TT):Prop:=
 ∀(whole:Sem Value) (pins:List (Addr × Obj)) (s:Shared) (σ:St) (H:Hp) (Q:Bool→Hp→Prop),Inv X pins σ H s→t σ H Q→wpAny (model X.prog X.w) X.A (isTrue e X.env whole) (TP X pins σ Q) X.xe s
theorem PW.pt {X:Cx} {e:Expr} {t:TT} (h:PW X e t):PT X e t:=h _
def PA (X:Cx) (es:List Expr) (t:TA):Prop:=
 ∀(pos:Pos) (pins:List (Addr × Obj)) (s:Shared) (σ:St) (H:Hp) (Q:List V→Hp→Prop),Inv X pins σ H s→t σ H Q→wpAny (model X.prog X.w) X.A (spliced (backTo pos (starEach es X.env))) (AP X pins σ Q) X.xe s
def PS (X:Cx) (st:Stmt) (t:TS):Prop:=
 ∀(pins:List (Addr × Obj)) (s:Shared) (σ:St) (H:Hp) (D:Ends),Inv X pins σ H s→t D σ H→wpAny (model X.prog X.w) X.A (exec st X.env) (SP X pins D) X.xe s
def PSs (X:Cx) (st:List Stmt) (t:TS):Prop:=
 ∀(pins:List (Addr × Obj)) (s:Shared) (σ:St) (H:Hp) (D:Ends),Inv X pins σ H s→t D σ H→wpAny (model X.prog X.w) X.A (execs st X.env) (SP X pins D) X.xe s
theorem thn {α:Type} {t:Sem α} {Q Q':α→Shared→Prop} {M:Model} {A:Around} {E:Value→Shared→Prop} {s:Shared} (h:wpAny M A t Q E s) (hQ:∀a s,Q a s→Q' a s):wpAny M A t Q' E s:=wpAny_mono h hQ fun _ _ x=>x
end L2
namespace L2
open PySem PySem.Spec PyProof.Rows
section
variable {X:Cx}
def tVar (i:Nat):TE:=fun σ H Q=>∃v,σ[i]?=some (some v)∧Q v H
abbrev tC (v:V):TE:=fun _ H Q=>Q v H
theorem z82 {i:Nat} {x:Str} {pos:Pos} (hN:X.N[i]?=some x) (hv:Vis X.env.scope x) (hd:autoParam ((x == ("__debug__":Str))=false) aR._auto_2) (hcd:autoParam ((x == ("__classdict__":Str))=false) aR._auto_2):PE X (.Name x pos) (tVar i):=by
 intro pins s σ H Q I h
 obtain ⟨v,e,h⟩:=h
 obtain ⟨m,hn,hl⟩:=I.loc
 obtain ⟨u,r,l⟩:=hl i x v hN e hv
 have fin:EP X pins σ Q u s:=⟨v,H,I,r,h⟩
 rcases l with ⟨hk,hm⟩ | ⟨hk,c,hc,hcell⟩
 ·exact wpAny_Name (wpAny_loadName_local I.ok.kind hk hn hm fin) hd
 ·rcases hk with hk | hk
  ·exact wpAny_Name (wpAny_loadName_cell I.ok.kind hk hc hcell fin) hd
  ·exact wpAny_Name (wpAny_loadName_free I.ok.kind hk hc hcell fin hcd) hd
theorem zh {i j pos}:PE X (.Constant (.int i) j pos) (tC (.int i)):=fun _ _ _ H _ I h=>wpAny_Constant_int ⟨.int i,H,I.tok _,⟨_,rfl⟩,h⟩
theorem Qv {b j pos}:PE X (.Constant (.bool b) j pos) (tC (.bl b)):=fun _ _ _ H _ I h=>Constant_bool ⟨.bl b,H,I,rfl,h⟩
theorem zR {j pos}:PE X (.Constant .none j pos) (tC .non):=fun _ _ _ H _ I h=>Constant_none ⟨.non,H,I,rfl,h⟩
theorem zx {x j pos}:PE X (.Constant (.str x) j pos) (tC (.str x)):=fun _ _ _ H _ I h=>Calls.Constant_str ⟨.str x,H,I.tok _,⟨_,rfl⟩,h⟩
def Gl (X:Cx) (x:Str):Prop:=X.env.kindOf x=some .globalImplicit
theorem Zs {E:Value→Shared→Prop} {pins:List (Addr × Obj)} {s:Shared} {σ:St} {H:Hp} {x:Str} {u:Value} {pos:Pos} {Q:Value→Shared→Prop} (I:Inv X pins σ H s) (hg:Gl X x) (hm:X.mg x=some u) (h:Q u s)
  (hd:autoParam ((x == ("__debug__":Str))=false) aR._auto_2):wpAny (model X.prog X.w) X.A (eval (.Name x pos) X.env) Q E s:=
 Calls.Name_function_global I.ok.kind hg (Calls.loadGlobal_global (by rw [I.ok.glob];exact I.mod.glob.keeps I.bk) hm h) hd
theorem ZD {E:Value→Shared→Prop} {pins:List (Addr × Obj)} {s:Shared} {σ:St} {H:Hp} {x:Str} {u:Value} {pos:Pos} {Q:Value→Shared→Prop} (I:Inv X pins σ H s) (hg:Gl X x) (hm:X.mg x=none) (hv:bootBuiltins x=some u) (h:Q u s)
  (hn:autoParam (x≠"__name__") aR._auto_2) (hd:autoParam ((x == ("__debug__":Str))=false) aR._auto_2):wpAny (model X.prog X.w) X.A (eval (.Name x pos) X.env) Q E s:=by
 obtain ⟨mb,h1,h2⟩:=I.mod.blt
 exact Calls.Name_function_global I.ok.kind hg (Calls.loadGlobal_builtin (by rw [I.ok.glob];exact I.mod.glob.keeps I.bk) hm (by rw [I.ok.blt];exact h1.keeps I.bk) ((h2 x hn).trans hv) h) hd
theorem zO {x:Str} {v:V} {u:Value} {pos:Pos} (hg:Gl X x) (hm:X.mg x=some u) (r:RelV v u) (hd:autoParam ((x == ("__debug__":Str))=false) aR._auto_2):PE X (.Name x pos) (tC v):=
 fun _ _ _ H _ I h=>Zs I hg hm ⟨v,H,I,r,h⟩ hd
theorem z6D {x:Str} {v:V} {u:Value} {pos:Pos} (hg:Gl X x) (hm:X.mg x=none) (hv:bootBuiltins x=some u) (r:RelV v u) (hn:autoParam (x≠"__name__") aR._auto_2) (hd:autoParam ((x == ("__debug__":Str))=false) aR._auto_2):PE X (.Name x pos) (tC v):=
 fun _ _ _ H _ I h=>ZD I hg hm hv ⟨v,H,I,r,h⟩ hn hd
variable {a b:Expr} {ta tb:TE} {pos:Pos}
def PC (X:Cx) (op:CmpOp) (a b:Expr) (t:TE):Prop:=
 ∀(pins:List (Addr × Obj)) (s:Shared) (σ:St) (H:Hp) (Q:VK),Inv X pins σ H s→t σ H Q→
  wpAny (model X.prog X.w) X.A (eval a X.env) (fun v s₁=>wpAny (model X.prog X.w) X.A (eval b X.env) (fun u s₂=>wpAny (model X.prog X.w) X.A (compareOp op v u) (EP X pins σ Q) X.xe s₂) X.xe s₁) X.xe s
def tB (t:TE):TT:=fun σ H Q=>t σ H fun x H1=>∃c,x=.bl c∧Q c H1
theorem z5S {op:CmpOp} {t:TE} (h:PC X op a b t) (h1:behindInMarks op b=false:=by first | exact nobehind _ (by decide) (by decide) | rfl):PE X (.Compare a [op] [b] pos) t:=fun pins s σ H Q I hw=>wpAny_Compare1 (h pins s σ H Q I hw) h1
theorem z5P {op:CmpOp} {t:TE} (h:PC X op a b t) (h1:behindInMarks op b=false:=by first | exact nobehind _ (by decide) (by decide) | rfl):PT X (.Compare a [op] [b] pos) (tB t):=by
 intro pins s σ H Q I hw
 refine wpAny_isTrue_Compare1 (thn (h pins s σ H _ I hw) fun v s1 h1=>thn h1 fun u s2 h2=>thn h2 fun c s3 ⟨x,H1,I1,r1,q1⟩=>?_) h1
 obtain ⟨d,rfl,q⟩:=q1
 cases r1
 exact wpAny_truthy_bool ⟨H1,I1,q⟩
theorem qy {e:Expr} {t:TE} (h:PE X e t) (he:∀whole,isTrue e X.env whole=(do let v ←whole;standAt e.pos;holding [v] (truthy v)):=by intro _;rfl):PT X e (tB t):=by
 intro pins s σ H Q I hw
 refine isTrue_plain (thn (h pins s σ H _ I hw) fun v s1 ⟨x,H1,I1,r1,q1⟩=>?_) (he _)
 obtain ⟨d,rfl,q⟩:=q1
 cases r1
 exact wpAny_truthy_bool ⟨H1,I1,q⟩
variable {tA tB':TT} {rest:List Expr}
def tAnd (t u:TT):TT:=fun σ H Q=>t σ H fun c H1=>if c=true then u σ H1 Q else Q false H1
def tOr (t u:TT):TT:=fun σ H Q=>t σ H fun c H1=>if c=true then Q true H1 else u σ H1 Q
def tNot (t:TT):TT:=fun σ H Q=>t σ H fun c H1=>Q (!c) H1
theorem Q0 (ha:PT X a tA):PW X (.BoolOp .And [a] pos) tA:=by
 intro wh pins s σ H Q I h
 refine isTrue_and (thn (ha pins s σ H Q I h) fun c s1 e=>?_)
 cases c with
 | true=>exact isTrue_and_nil e
 | false=>exact e
theorem jY (ha:PT X a tA):PW X (.BoolOp .Or [a] pos) tA:=by
 intro wh pins s σ H Q I h
 refine isTrue_or (thn (ha pins s σ H Q I h) fun c s1 e=>?_)
 cases c with
 | false=>exact isTrue_or_nil e
 | true=>exact e
theorem Jt (ha:PT X a tA) (hb:PW X (.BoolOp .And (b :: rest) pos) tB'):PW X (.BoolOp .And (a :: b :: rest) pos) (tAnd tA tB'):=by
 intro wh pins s σ H Q I h
 refine isTrue_and (thn (ha pins s σ H _ I h) fun c s1 zz=>?_)
 obtain ⟨H1,I1,q1⟩:=zz
 cases c with
 | true=>exact hb wh pins s1 σ H1 Q I1 q1
 | false=>exact ⟨H1,I1,q1⟩
theorem Qt (ha:PT X a tA) (hb:PW X (.BoolOp .Or (b :: rest) pos) tB'):PW X (.BoolOp .Or (a :: b :: rest) pos) (tOr tA tB'):=by
 intro wh pins s σ H Q I h
 refine isTrue_or (thn (ha pins s σ H _ I h) fun c s1 zz=>?_)
 obtain ⟨H1,I1,q1⟩:=zz
 cases c with
 | true=>exact ⟨H1,I1,q1⟩
 | false=>exact hb wh pins s1 σ H1 Q I1 q1
theorem jc (ha:PT X a tA):PT X (.UnaryOp .Not a pos) (tNot tA):=by
 intro pins s σ H Q I h
 exact isTrue_not (ha pins s σ H (fun c H1=>Q (!c) H1) I h)
def z8Z (ta tb:TE):TE:=fun σ H Q=>ta σ H fun x H1=>∃c,x=.bl c∧if c=true then tb σ H1 Q else Q (.bl false) H1
def tOrV (ta tb:TE):TE:=fun σ H Q=>ta σ H fun x H1=>∃c,x=.bl c∧if c=true then Q (.bl true) H1 else tb σ H1 Q
def z8T (ta:TE):TE:=fun σ H Q=>ta σ H fun x H1=>∃c,x=.bl c∧Q (.bl (!c)) H1
theorem qV {op} {t:TE} (h:PE X a t):PE X (.BoolOp op [a] pos) t:=fun pins s σ H Q I hw=>BoolOp_one (h pins s σ H Q I hw)
theorem qN (ha:PE X a ta) (hb:PE X (.BoolOp .And (b :: rest) pos) tb):PE X (.BoolOp .And (a :: b :: rest) pos) (z8Z ta tb):=by
 intro pins s σ H Q I h
 refine BoolOp_and (thn (ha pins s σ H _ I h) fun v s1 zz=>?_)
 obtain ⟨x,H1,I1,r1,q1⟩:=zz
 obtain ⟨c,rfl,q1⟩:=q1
 cases r1
 refine wpAny_truthy_bool ?_
 cases c with
 | true=>exact hb pins s1 σ H1 Q I1 q1
 | false=>exact ⟨.bl false,H1,I1,rfl,q1⟩
theorem z83 (ha:PE X a ta) (hb:PE X (.BoolOp .Or (b :: rest) pos) tb):PE X (.BoolOp .Or (a :: b :: rest) pos) (tOrV ta tb):=by
 intro pins s σ H Q I h
 refine BoolOp_or (thn (ha pins s σ H _ I h) fun v s1 zz=>?_)
 obtain ⟨x,H1,I1,r1,q1⟩:=zz
 obtain ⟨c,rfl,q1⟩:=q1
 cases r1
 refine wpAny_truthy_bool ?_
 cases c with
 | false=>exact hb pins s1 σ H1 Q I1 q1
 | true=>exact ⟨.bl true,H1,I1,rfl,q1⟩
theorem z5R (ha:PE X a ta):PE X (.UnaryOp .Not a pos) (z8T ta):=by
 intro pins s σ H Q I h
 refine UnaryOp_ (thn (ha pins s σ H _ I h) fun v s1 zz=>?_)
 obtain ⟨x,H1,I1,r1,q1⟩:=zz
 obtain ⟨c,rfl,q1⟩:=q1
 cases r1
 exact not_of (wpAny_truthy_bool ⟨.bl (!c),H1,I1,rfl,q1⟩)
def tIf (t:TT) (ta tb:TE):TE:=fun σ H Q=>t σ H fun c H1=>if c=true then ta σ H1 Q else tb σ H1 Q
theorem jo {c:Expr} (hc:PT X c tA) (ha:PE X a ta) (hb:PE X b tb):PE X (.IfExp c a b pos) (tIf tA ta tb):=by
 intro pins s σ H Q I h
 refine wpAny_IfExp (thn (hc pins s σ H _ I h) fun d s1 zz=>?_)
 obtain ⟨H1,I1,q1⟩:=zz
 cases d with
 | true=>exact ha pins s1 σ H1 Q I1 q1
 | false=>exact hb pins s1 σ H1 Q I1 q1
end
end L2
namespace L2
open PySem PySem.Spec PyProof.Rows
def SqL (K:ky) (H:Hp) (a:Addr) (xs:List V):Prop:=
 Rd H a (.lst xs)∨
  ∃(o:Obj) (its:Array Value) (n:Nat),K.lookup a=some o∧o.cls=.type "list"∧o.dict=none∧o.data=.seq its n∧its.size≤sizeLine∧Vals xs its.toList
def SqT (K:ky) (H:Hp) (a:Addr) (xs:List V):Prop:=
 Rd H a (.tup xs)∨
  ∃(o:Obj) (its:Array Value) (n:Nat),K.lookup a=some o∧o.cls=.type "tuple"∧o.data=.seq its n∧its.size≤sizeLine∧Vals xs its.toList
noncomputable def absV:Value→Option V
 | .none=>some .non
 | .bool b=>some (.bl b)
 | .int i _=>some (.int i)
 | .str x _=>some (.str x)
 | .bytes b _=>some (.byt b)
 | .float b _=>some (.flt b)
 | .ref a=>some (.ref a)
 | .type n=>some (.ty n)
 | _=>none
theorem RelV.abs {x:V} {u:Value} (r:RelV x u):absV u=some x:=by
 cases x with
 | non=>cases r;rfl
 | bl _=>cases r;rfl
 | int _=>obtain ⟨t,rfl⟩:=r;rfl
 | str _=>obtain ⟨t,rfl⟩:=r;rfl
 | byt _=>obtain ⟨t,rfl⟩:=r;rfl
 | flt _=>obtain ⟨t,rfl⟩:=r;rfl
 | ref _=>cases r;rfl
 | ty _=>cases r;rfl
theorem RelV.inj {x y:V} {u:Value} (r:RelV x u) (q:RelV y u):x=y:=kB (r.abs.symm.trans q.abs)
theorem Vals.inj:∀{xs ys:List V} {us:List Value},Vals xs us→Vals ys us→xs=ys
 | _,_,_,.nil,.nil=>rfl
 | _,_,_,.cons r t,.cons r' t'=>by rw [r.inj r',Vals.inj t t']
section
variable {X:Cx} {pins:List (Addr × Obj)} {σ:St} {H:Hp} {s:Shared} {a:Addr} {xs ys:List V}
theorem SqL.of {K:ky} (h:H a=some (.lst xs)):SqL K H a xs:=.inl (.inl h)
theorem SqT.of {K:ky} (h:H a=some (.tup xs)):SqT K H a xs:=.inl (.inl h)
theorem Inv.list (I:Inv X pins σ H s) (h:SqL X.K H a xs):∃its:List Value,Vals xs its∧PlainL s.heap a its.toArray∧xs.length≤sizeLine:=by
 rcases h with h | ⟨o,its,n,hk,hc,hd,hs,hz,r⟩
 ·obtain ⟨z,its,n,r,e⟩:=h.ok I.hok
  exact ⟨its,r,⟨_,n,e,rfl,rfl,rfl⟩,z⟩
 ·refine ⟨its.toList,r,⟨o,n,I.kIn a o hk,hc,hd,by simpa using hs⟩,?_⟩
  have e:=r.length
  simp only [Array.length_toList] at e
  lia
theorem Inv.tuple (I:Inv X pins σ H s) (h:SqT X.K H a xs):∃its:List Value,Vals xs its∧IsTup s.heap a its.toArray∧xs.length≤sizeLine:=by
 rcases h with h | ⟨o,its,n,hk,hc,hs,hz,r⟩
 ·obtain ⟨z,its,r,p⟩:=h.ok I.hok
  exact ⟨its,r,p,z⟩
 ·refine ⟨its.toList,r,⟨o,I.kIn a o hk,hc,n,by simpa using hs⟩,?_⟩
  have e:=r.length
  simp only [Array.length_toList] at e
  lia
theorem Inv.list_inj (I:Inv X pins σ H s) (h:SqL X.K H a xs) (h':SqL X.K H a ys):xs=ys:=by
 obtain ⟨its,r,⟨o,n,e,_,_,d⟩,_⟩:=I.list h
 obtain ⟨its',r',⟨o',n',e',_,_,d'⟩,_⟩:=I.list h'
 rw [e] at e';cases e'
 rw [d] at d'
 injection d' with d1 _
 have:its=its':=by simpa using congrArg Array.toList d1
 subst this
 exact r.inj r'
theorem Inv.tuple_inj (I:Inv X pins σ H s) (h:SqT X.K H a xs) (h':SqT X.K H a ys):xs=ys:=by
 obtain ⟨its,r,⟨o,e,_,n,d⟩,_⟩:=I.tuple h
 obtain ⟨its',r',⟨o',e',_,n',d'⟩,_⟩:=I.tuple h'
 rw [e] at e';cases e'
 rw [d] at d'
 injection d' with d1 _
 have:its=its':=by simpa using congrArg Array.toList d1
 subst this
 exact r.inj r'
end
noncomputable abbrev Cx.wish (X:Cx) (E:Value→Shared→Prop):Cx:={ X with xe:=E }
noncomputable abbrev Cx.nox (X:Cx):Cx:=X.wish fun _ _=>False
theorem Cx.Ok.wish {X:Cx} (ok:X.Ok) (E:Value→Shared→Prop):(X.wish E).Ok:=
 ⟨ok.mod,ok.kind,ok.glob,ok.blt,ok.above,ok.inj,ok.has,ok.cab,ok.hd,ok.frames,ok.stk,ok.exf,ok.bs,ok.bsz,ok.noex,ok.exfs,ok.funs,ok.frf⟩
theorem Cx.Ok.unwish {X:Cx} {E:Value→Shared→Prop} (ok:(X.wish E).Ok):X.Ok:=
 ⟨ok.mod,ok.kind,ok.glob,ok.blt,ok.above,ok.inj,ok.has,ok.cab,ok.hd,ok.frames,ok.stk,ok.exf,ok.bs,ok.bsz,ok.noex,ok.exfs,ok.funs,ok.frf⟩
section
variable {X:Cx} {pins:List (Addr × Obj)} {σ:St} {H:Hp} {s:Shared} {E:Value→Shared→Prop}
theorem Inv.wish (I:Inv X pins σ H s) (E:Value→Shared→Prop):Inv (X.wish E) pins σ H s:=⟨I.ok.wish E,I.os,I.bare,I.base,I.loc,I.cell,I.free,I.freeC,I.pin,I.hok,I.len⟩
theorem Inv.unwish (I:Inv (X.wish E) pins σ H s):Inv X pins σ H s:=⟨I.ok.unwish,I.os,I.bare,I.base,I.loc,I.cell,I.free,I.freeC,I.pin,I.hok,I.len⟩
theorem SP.unwish {D:Ends} {f:Flow} {s':Shared} (h:SP (X.wish E) pins D f s'):SP X pins D f s':=by
 cases f with
 | next=>obtain ⟨σ',H',I,q⟩:=h;exact ⟨σ',H',I.unwish,q⟩
 | brk=>obtain ⟨σ',H',I,q⟩:=h;exact ⟨σ',H',I.unwish,q⟩
 | cont=>obtain ⟨σ',H',I,q⟩:=h;exact ⟨σ',H',I.unwish,q⟩
 | ret u=>obtain ⟨v,σ',H',I,r,q⟩:=h;exact ⟨v,σ',H',I.unwish,r,q⟩
theorem PSs.nox {st:List Stmt} {t:TS} (h:PSs X.nox st t):PSs X st t:=fun pins s σ H D I hw=>
 wpAny_mono (h pins s σ H D (I.wish _) hw) (fun _ _ q=>q.unwish) fun _ _ z=>False.elim z
end
section
variable {X:Cx} {st:Stmt} {rest:List Stmt} {t u:TS} {e:Expr} {te:TE} {pos:Pos}
def z8U:TS:=fun D σ H=>D.nx σ H
def tSeq (t u:TS):TS:=fun D σ H=>t { D with nx:=u D } σ H
theorem zt:PSs X [] z8U:=fun _ _ σ H _ I h=>wpAny_execs_nil ⟨σ,H,I,h⟩
theorem z7 (h1:PS X st t) (h2:PSs X rest u):PSs X (st :: rest) (tSeq t u):=by
 intro pins s σ H D I h
 refine wpAny_execs_cons (thn (h1 pins s σ H { D with nx:=u D } I h) fun f s1 q=>?_)
 cases f with
 | next=>
  obtain ⟨σ',H',I',q⟩:=q
  exact h2 pins s1 σ' H' D I' q
 | ret v=>exact q
 | brk=>exact q
 | cont=>exact q
theorem ze (h1:PS X st t):PSs X [st] t:=by
 intro pins s σ H D I h
 refine wpAny_execs_cons (thn (h1 pins s σ H D I h) fun f s1 q=>?_)
 cases f with
 | next=>exact wpAny_execs_nil q
 | ret v=>exact q
 | brk=>exact q
 | cont=>exact q
theorem Inv.quiet {pins:List (Addr × Obj)} {σ:St} {H:Hp} {s:Shared} (I:Inv X pins σ H s):interactive X.env=false:=by simp [interactive,I.ok.kind]
def z8W (te:TE):TS:=fun D σ H=>te σ H fun _ H1=>D.nx σ H1
theorem zy (he:PE X e te) (hs:autoParam (swapsWith e none pos.line X.env=pure false) aR._auto_1):PS X (.Expr e pos) (z8W te):=by
 intro pins s σ H D I h
 exact wpAny_Expr_any (thn (he pins s σ H _ I h) fun v s1 ⟨x,H1,I1,r1,q1⟩=>⟨σ,H1,I1,q1⟩) I.quiet hs
def tRet (te:TE):TS:=fun D σ H=>te σ H D.rt
theorem zi (he:PE X e te):PS X (.Return (some e) pos) (tRet te):=by
 intro pins s σ H D I h
 exact wpAny_Return_some (thn (he pins s σ H _ I h) fun v s1 ⟨x,H1,I1,r1,q1⟩=>⟨x,σ,H1,I1,r1,q1⟩)
def z8R:TS:=fun D _ H=>D.rt .non H
theorem z6A:PS X (.Return none pos) z8R:=fun _ _ σ H _ I h=>wpAny_Return_none ⟨.non,σ,H,I,rfl,h⟩
def tIfS (c:TT) (t u:TS):TS:=fun D σ H=>c σ H fun b H1=>if b=true then t D σ H1 else u D σ H1
theorem zQ {c:Expr} {a b:List Stmt} {tc:TT} (hc:PT X c tc) (ha:PSs X a t) (hb:PSs X b u):PS X (.If c a b pos) (tIfS tc t u):=by
 intro pins s σ H D I h
 refine wpAny_If (thn (hc pins s σ H _ I h) fun d s1 zz=>?_)
 obtain ⟨H1,I1,q1⟩:=zz
 cases d with
 | true=>exact ha pins s1 σ H1 D I1 q1
 | false=>exact hb pins s1 σ H1 D I1 q1
def z7C:TS:=fun _ _ _=>False
theorem qu {sts:List Stmt}:PSs X sts z7C:=fun _ _ _ _ _ _ h=>h.elim
end
abbrev TG:=V→St→Hp→(St→Hp→Prop)→Prop
abbrev TGs:=List V→St→Hp→(St→Hp→Prop)→Prop
def PG (X:Cx) (target:Expr) (t:TG):Prop:=
 ∀(pins:List (Addr × Obj)) (s:Shared) (σ:St) (H:Hp) (v:V) (u:Value) (Q:St→Hp→Prop),Inv X pins σ H s→RelV v u→t v σ H Q→
  wpAny (model X.prog X.w) X.A (assign target X.env u) (fun _ s'=>∃σ' H',Inv X pins σ' H' s'∧Q σ' H') X.xe s
def PGs (X:Cx) (ts:List Expr) (t:TGs):Prop:=
 ∀(pins:List (Addr × Obj)) (s:Shared) (σ:St) (H:Hp) (vs:List V) (us:List Value) (Q:St→Hp→Prop),Inv X pins σ H s→Vals vs us→t vs σ H Q→
  wpAny (model X.prog X.w) X.A (assignInOrder ((assignEach ts X.env).map (·.2)) us) (fun _ s'=>∃σ' H',Inv X pins σ' H' s'∧Q σ' H') X.xe s
abbrev TSet:=V→V→V→Hp→(Hp→Prop)→Prop
def PSet (X:Cx) (t:TSet):Prop:=
 ∀(pins:List (Addr × Obj)) (s:Shared) (σ:St) (H:Hp) (o i v:V) (ov iv u:Value) (Q:Hp→Prop),Inv X pins σ H s→RelV o ov→RelV i iv→RelV v u→t o i v H Q→
  wpAny (model X.prog X.w) X.A (setItem ov iv u) (fun _ s'=>∃H',Inv X pins σ H' s'∧Q H') X.xe s
abbrev TIp:=V→V→Hp→VK→Prop
def PIp (X:Cx) (op:Operator) (t:TIp):Prop:=
 ∀(pins:List (Addr × Obj)) (s:Shared) (σ:St) (H:Hp) (x y:V) (v u:Value) (Q:VK),Inv X pins σ H s→RelV x v→RelV y u→t x y H Q→
  wpAny (model X.prog X.w) X.A (inplaceOp op v u) (EP X pins σ Q) X.xe s
section
variable {X:Cx} {pos:Pos}
def z3B (i:Nat):TG:=fun v σ H Q=>Q (σ.set i (some v)) H
theorem zp {i:Nat} {x:Str} (hN:X.N.Nodup) (hi:X.N[i]?=some x) (hx:Loc X.env.scope x) (hf:X.fn x=true∨X.env.scope.names.lookup x=some .local:=by first | exact .inl rfl | exact .inr rfl | assumption):PG X (.Name x pos) (z3B i):=by
 intro pins s σ H v u Q I r h
 exact wpAny_assign_Name (jU I hN hi hx r (fun s' I'=>⟨_,H,I',h⟩) hf)
def gNil:TGs:=fun vs σ H Q=>vs=[]∧Q σ H
def z9y (t:TG) (u:TGs):TGs:=fun vs σ H Q=>∃v r,vs=v :: r∧t v σ H fun σ' H'=>u r σ' H' Q
theorem qf:PGs X [] gNil:=by
 intro pins s σ H vs us Q I r h
 obtain ⟨e,h⟩:=h
 subst e
 cases r
 exact assignInOrder_nil ⟨σ,H,I,h⟩
theorem zn {e:Expr} {es:List Expr} {t:TG} {u:TGs} (h1:PG X e t) (h2:PGs X es u)
  (hs:autoParam ((assignEach (e :: es) X.env).map (·.2)=assign e X.env :: (assignEach es X.env).map (·.2)) aR._auto_1):PGs X (e :: es) (z9y t u):=by
 intro pins s σ H vs us Q I r h
 obtain ⟨v,vr,e1,h⟩:=h
 subst e1
 cases r with
 | cons r rr=>
  rw [hs]
  refine assignInOrder_cons (thn (h1 pins s σ H _ _ _ I r h) fun _ s1 zz=>?_)
  obtain ⟨σ1,H1,I1,q1⟩:=zz
  exact h2 pins s1 σ1 H1 _ _ Q I1 rr q1
def gTup (K:ky) (n:Nat) (t:TGs):TG:=fun v σ H Q=>∃a xs,v=.ref a∧SqT K H a xs∧xs.length=n∧t xs σ H Q
theorem j7 {es:List Expr} {k:Nat} {t:TGs} {n:Nat} (hc:X.calm=true) (h:PGs X es t)
  (hn:autoParam ((assignEach es X.env).length=n) aR._auto_1) (hst:autoParam ((assignEach es X.env).findIdx? (·.1)=none) aR._auto_1):PG X (.Tuple es k pos) (gTup X.K n t):=by
 intro pins s σ H v u Q I r hw
 obtain ⟨a,xs,e1,hq,hl,hw⟩:=hw
 subst e1
 cases r
 obtain ⟨its,rv,ht,hz⟩:=I.tuple hq
 refine assign_Tuple_tuple (I.ok.hd hc) ht (by simp [hn,←hl,rv.length]) hst fun h' hx=>?_
 have I1:Inv X pins σ H { s with heap:=h' }:=I.kept (t':=s.toks) fun b o e=>hx b o (Nat.ne_of_lt (Heap.lt_size e)) e
 exact h pins _ σ H xs _ Q I1 (by simpa using rv) hw
def gSub (to ti:TE) (t:TSet):TG:=fun v σ H Q=>to σ H fun o H1=>ti σ H1 fun i H2=>t o i v H2 fun H3=>Q σ H3
theorem ZA {o i:Expr} {to ti:TE} {t:TSet} (ho:PE X o to) (hi:PE X i ti) (hs:PSet X t)
  (ha:∀v,assign (.Subscript o i pos) X.env v=(do
   let ov ←holding [v] (eval o X.env)
   let iv ←holding [v,ov] (eval i X.env)
   standAt pos
   holding [v,ov,iv] (setItem ov iv v)
   release [v,ov,iv] []):=by intro _;rfl):PG X (.Subscript o i pos) (gSub to ti t):=by
 intro pins s σ H v u Q I r h
 rw [ha]
 refine wpAny_bind (wpAny_holding (thn (ho pins s σ H _ I h) fun ov s1 zz=>?_))
 obtain ⟨x,H1,I1,r1,q1⟩:=zz
 refine wpAny_bind (wpAny_holding (thn (hi pins s1 σ H1 _ I1 q1) fun iv s2 zz=>?_))
 obtain ⟨y,H2,I2,r2,q2⟩:=zz
 refine wpAny_bind (wpAny_standAt (wpAny_bind (wpAny_holding (thn (hs pins s2 σ H2 x y v ov iv u _ I2 r1 r2 r q2) fun _ s3 zz=>?_))))
 obtain ⟨H3,I3,q3⟩:=zz
 exact wpAny_release ⟨σ,H3,I3,q3⟩
def tAsg (te:TE) (g:TG):TS:=fun D σ H=>te σ H fun x H1=>g x σ H1 D.nx
theorem j6 {tg e:Expr} {te:TE} {g:TG} (he:PE X e te) (hg:PG X tg g) (hs:autoParam (swapsWithSole [tg] e pos.line X.env=pure false) aR._auto_1) (hw:autoParam (swappedStores [tg] e X.env=pure none) aR._auto_1)
  (h1:autoParam ((assignEach [tg] X.env).map (·.2)=[assign tg X.env]) aR._auto_1):PS X (.Assign [tg] e pos) (tAsg te g):=by
 intro pins s σ H D I h
 refine wpAny_Assign_stores (thn (he pins s σ H _ I h) fun v s1 ⟨x,H1,I1,r1,q1⟩=>?_) hs hw
 rw [h1]
 exact thn (hg pins s1 σ H1 x v _ I1 r1 q1) fun _ s2 q=>q
theorem zw {i:Nat} {x:Str} {e:Expr} {te:TE} {pos':Pos} (hN:X.N.Nodup) (hi:X.N[i]?=some x) (hx:Loc X.env.scope x) (he:PE X e te) (hs:autoParam (swapsWith e (some (.Name x pos')) pos.line X.env=pure false) aR._auto_1) (hf:X.fn x=true∨X.env.scope.names.lookup x=some .local:=by first | exact .inl rfl | exact .inr rfl | assumption):
  PS X (.Assign [.Name x pos'] e pos) (tAsg te (z3B i)):=by
 intro pins s σ H D I h
 refine wpAny_Assign_Name (thn (he pins s σ H _ I h) fun v s1 ⟨y,H1,I1,r1,q1⟩=>?_) hs
 exact jU I1 hN hi hx r1 (fun s2 I2=>⟨_,H1,I2,q1⟩) hf
def tPar (i j:Nat) (ta:TA):TS:=fun D σ H=>ta σ H fun vs H1=>∃v w,vs=[v,w]∧D.nx ((σ.set i (some v)).set j (some w)) H1
theorem Jv {i j:Nat} {x y:Str} {a b:Expr} {ta:TA} {px py pt:Pos} {kt k2 pt2} (hc:X.calm=true) (hN:X.N.Nodup) (hi:X.N[i]?=some x) (hj:X.N[j]?=some y) (hij:i≠j)
  (hx:X.env.scope.names.lookup x=some .local) (hy:X.env.scope.names.lookup y=some .local) (ha:PA X [a,b] ta)
  (hw:swappedStores [.Tuple [.Name x px,.Name y py] kt pt] (.Tuple [a,b] k2 pt2) X.env=pure (some [x,y]))
  (hs:autoParam (swapsWithSole [.Tuple [.Name x px,.Name y py] kt pt] (.Tuple [a,b] k2 pt2) pos.line X.env=pure false) aR._auto_1):
  PS X (.Assign [.Tuple [.Name x px,.Name y py] kt pt] (.Tuple [a,b] k2 pt2) pos) (tPar i j ta):=by
 intro pins s σ H D I h
 rw [exec_Assign_arm]
 refine wpAny_bind (wpAny_standAt ?_)
 rw [hs]
 refine wpAny_bind (wpAny_pure ?_)
 rw [kz (by decide)]
 refine wpAny_bind (Tuple_ (thn (ha _ pins s σ H _ I h) fun us s1 zz=>?_))
 obtain ⟨vs,H1,I1,r1,q1⟩:=zz
 obtain ⟨v,w,e1,q1⟩:=q1
 subst e1
 obtain ⟨u1,u2,rfl,rv,rw'⟩:∃u1 u2,us=[u1,u2]∧RelV v u1∧RelV w u2:=by
  cases r1 with
  | cons p q=>
   cases q with
   | cons p' q'=>
    cases q'
    exact ⟨_,_,rfl,p,p'⟩
 refine wpAny_newObj_type ?_ (by show 2≤sizeLine;decide)
 have I2:Inv X pins σ H1 { s1 with heap:=s1.heap.push { cls:=.type "tuple",data:=.seq [u1,u2].toArray } }:=I1.kept (t':=s1.toks) fun b o e=>Heap.get?_push_of_some _ e
 rw [hw]
 refine wpAny_bind (wpAny_pure ?_)
 show wpAny (model X.prog X.w) X.A (do rule "assign.swapped-stores";let items ←unpackItems (.ref s1.heap.objs.size) 2 none;assignInOrder [fun v=>bindName X.env y v,fun v=>bindName X.env x v] items.reverse;pure Flow.next) _ _ _
 refine wpAny_bind (wpAny_rule (wpAny_bind (unpackItems_tuple (items:=#[u1,u2]) (I.ok.hd hc) (IsTup.new s1.heap _) fun h' hx'=>?_)))
 have I3:=I2.kept (h':=h') (t':=s1.toks) fun b o e=>hx' b o (Nat.ne_of_lt (Heap.lt_size e)) e
 show wpAny _ _ (assignInOrder [fun v=>bindName X.env y v,fun v=>bindName X.env x v] [u2,u1] >>= fun _=>pure Flow.next) _ _ _
 refine wpAny_bind (assignInOrder_cons (wpAny_bindName (jU I3 hN hj (.inl hy) rw' (fun s2 I4=>?_) (.inr hy))))
 refine assignInOrder_cons (wpAny_bindName (jU I4 hN hi (.inl hx) rv (fun s3 I5=>assignInOrder_nil (wpAny_pure ?_)) (.inr hx)))
 rw [List.set_comm _ _ (Ne.symm hij)] at I5
 exact ⟨_,H1,I5,q1⟩
def tAug (i:Nat) (te:TE) (ti:TIp):TS:=fun D σ H=>∃x,σ[i]?=some (some x)∧te σ H fun y H1=>ti x y H1 fun z H2=>D.nx (σ.set i (some z)) H2
theorem z7Y {i:Nat} {x:Str} {e:Expr} {te:TE} {op:Operator} {ti:TIp} {pos':Pos} (hN:X.N.Nodup) (hi:X.N[i]?=some x) (hx:Loc X.env.scope x) (he:PE X e te) (ho:PIp X op ti) (hf:X.fn x=true∨X.env.scope.names.lookup x=some .local:=by first | exact .inl rfl | exact .inr rfl | assumption):
  PS X (.AugAssign (.Name x pos') op e pos) (tAug i te ti):=by
 intro pins s σ H D I h
 obtain ⟨v,e1,h⟩:=h
 obtain ⟨m,hn,hl⟩:=I.loc
 have vis:Vis X.env.scope x:=by rcases hx with k | k;exact .inl k;exact .inr (.inl k)
 obtain ⟨u,r,l⟩:=hl i x v hi e1 vis
 refine wpAny_AugAssign_Name ?_
 have go:wpAny (model X.prog X.w) X.A (eval e X.env) (fun w s₂=>wpAny (model X.prog X.w) X.A (inplaceOp op u w) (fun r s₃=>wpAny (model X.prog X.w) X.A (storeName X.env x r) (fun _=>SP X pins D .next) X.xe s₃) X.xe s₂) X.xe s:=by
  refine thn (he pins s σ H _ I h) fun w s1 zz=>?_
  obtain ⟨y,H1,I1,r1,q1⟩:=zz
  refine thn (ho pins s1 σ H1 v y u w _ I1 r r1 q1) fun z s2 zz=>?_
  obtain ⟨zv,H2,I2,r2,q2⟩:=zz
  exact jU I2 hN hi hx r2 (fun s3 I3=>⟨_,H2,I3,q2⟩) hf
 rcases l with ⟨hk,hm⟩ | ⟨hk,c,hc,hcell⟩
 ·exact wpAny_loadName_local I.ok.kind hk hn hm go
 ·rcases hk with hk | hk
  ·exact wpAny_loadName_cell I.ok.kind hk hc hcell go
  ·rcases hx with k | k
   ·have:X.env.scope.names.lookup x=some .free:=hk
    rw [k] at this;cases this
   ·have:X.env.scope.names.lookup x=some .free:=hk
    rw [k] at this;cases this
def ipI (f:Int→Int→Int):TIp:=fun x y H Q=>∃i j,x=.int i∧y=.int j∧Q (.int (f i j)) H
theorem z8p:PIp X .Add (ipI fun i j=>i+j):=by
 intro pins s σ H x y v u Q I r1 r2 h
 obtain ⟨i,j,e1,e2,q⟩:=h
 subst e1;subst e2
 obtain ⟨t,rfl⟩:=r1
 obtain ⟨t',rfl⟩:=r2
 exact iadd_int ⟨.int _,H,I.tok _,⟨_,rfl⟩,q⟩
end
section
variable {X:Cx} {pos:Pos}
def z5x (c:TT) (tb:TS):TS:=fun D σ H=>∃W:Nat→St→Hp→Prop,(∃m,W m σ H)∧∀m σ H,W m σ H→
 c σ H fun b H1=>if b=true then ∃N:St→Hp→Prop,(∀σ' H',N σ' H'→∃m',m' < m∧W m' σ' H')∧tb { D with nx:=N,ct:=N,bk:=D.nx } σ H1 else D.nx σ H1
theorem ZO {c:Expr} {body:List Stmt} {tc:TT} {tb:TS} (hp:PassesOwn (model X.prog X.w) X.A X.env X.xe) (hc:PT X c tc) (hb:PSs X body tb):PS X (.While c body [] pos) (z5x tc tb):=by
 intro pins s σ H D I h
 obtain ⟨W,⟨m0,w0⟩,turn⟩:=h
 refine wpAny_While (codeAny_whileLoop (fun n s'=>∃σ' H',Inv X pins σ' H' s'∧W n σ' H') ?_ m0 ⟨σ,H,I,w0⟩)
 rintro n s1 ⟨σ1,H1,I1,w1⟩
 refine wpAny_passesOwn hp (thn (hc pins s1 σ1 H1 _ I1 (turn n σ1 H1 w1)) fun b s2 zz=>?_)
 obtain ⟨H2,I2,q2⟩:=zz
 cases b with
 | true=>
  obtain ⟨N,hN,q2⟩:=q2
  rw [kA rfl]
  refine wpAny_passesOwn hp (thn (hb pins s2 σ1 H2 _ I2 q2) fun f s3 q3=>?_)
  cases f with
  | next=>
   obtain ⟨σ3,H3,I3,n3⟩:=q3
   obtain ⟨m',hm,w3⟩:=hN σ3 H3 n3
   exact ⟨m',hm,σ3,H3,I3,w3⟩
  | cont=>
   obtain ⟨σ3,H3,I3,n3⟩:=q3
   obtain ⟨m',hm,w3⟩:=hN σ3 H3 n3
   exact ⟨m',hm,σ3,H3,I3,w3⟩
  | brk=>exact q3
  | ret v=>exact q3
 | false=>
  rw [kz ka]
  exact wpAny_execs_nil ⟨σ1,H2,I2,q2⟩
end
structure It where
 go:Nat→Hp→Prop
 yld:Nat→Hp→V→Hp→Prop
 stop:Nat→Hp→Prop
def FpOk (X:Cx) (pins:List (Addr × Obj)) (H:Hp) (b:Addr):Prop:=
 H b=none∧b≠X.env.locals∧b∉X.fs∧(b∈X.ex∨X.s₀.heap.objs.size≤b)∧(∀x c,X.env.cells.lookup x=some c→c≠b)∧∀p∈X.pn++pins,p.1≠b
theorem Inv.fpOk {X:Cx} {pins:List (Addr × Obj)} {σ:St} {H H':Hp} {s:Shared} {b:Addr} (I:Inv X pins σ H s) (hb:s.heap.objs.size≤b) (hn:H' b=none):FpOk X pins H' b:=by
 refine ⟨hn,Nat.ne_of_gt (kL I.lt hb),I.nofs hb,.inr (ku I.sz hb),fun x c e z=>?_,fun p hp z=>?_⟩
 ·obtain ⟨v,q⟩:=I.cell x c e
  exact absurd (kL q.lt (by rw [z];exact hb)) (Nat.lt_irrefl _)
 ·exact absurd (kL (Heap.lt_size (I.pin p hp).1) (by rw [z];exact hb)) (Nat.lt_irrefl _)
structure Turn (P:Program) (w:World) (K:ky) (tg:Expr) (J:It) (fp:List Addr) (it:Addr) (tn:Nat→Heap→Prop):Prop where
 mem:it∈fp
 obj:∀i h,tn i h→∀b∈fp,∃o,h.get? b=some o∧∀v,o.data≠.cell v
 keep:∀i h h',tn i h→(∀b∈fp,∀o,h.get? b=some o→h'.get? b=some o)→tn i h'
 item:∀(X:Cx),X.prog=P→X.w=w→X.K=K→X.calm=true→∀(i:Nat) (pins:List (Addr × Obj)) (s:Shared) (σ:St) (H:Hp) (E:Value→Shared→Prop),Inv X pins σ H s→(∀b∈fp,FpOk X pins H b)→tn i s.heap→J.go i H→
  wpAny (model P w) X.A (pyNext (.ref it)) (fun r s1=>∃u,r=some u∧
   wpAny (model P w) X.A (letOwnedTupleGo tg (.ref it) u) (fun _ s2=>∃x H',Inv X pins σ H' s2∧RelV x u∧J.yld i H x H'∧tn (i+1) s2.heap∧∀b∈fp,H' b=none) E s1) E s
 done:∀(X:Cx),X.prog=P→X.w=w→X.K=K→X.calm=true→∀(i:Nat) (pins:List (Addr × Obj)) (s:Shared) (σ:St) (H:Hp) (E:Value→Shared→Prop),Inv X pins σ H s→(∀b∈fp,FpOk X pins H b)→tn i s.heap→J.stop i H→
  wpAny (model P w) X.A (pyNext (.ref it)) (fun r s1=>r=none∧Inv X pins σ H s1) E s
 self:∀(A:Around) (i:Nat) (s:Shared) (Q:Value→Shared→Prop) (E:Value→Shared→Prop),tn i s.heap→Q (.ref it) s→wpAny (model P w) A (pyIter (.ref it)) Q E s
abbrev TI:=St→Hp→(It→Hp→Prop)→Prop
def PIE (X:Cx) (pins:List (Addr × Obj)) (σ:St) (tg:Expr) (R:It→Hp→Prop) (itv:Value) (s2:Shared):Prop:=
 ∃(it:Addr) (fp:List Addr) (tn:Nat→Heap→Prop) (J:It) (H':Hp),itv=.ref it∧Inv X pins σ H' s2∧Turn X.prog X.w X.K tg J fp it tn∧tn 0 s2.heap∧(∀b∈fp,FpOk X pins H' b)∧R J H'
def PI (X:Cx) (tg iter:Expr) (wi:TI):Prop:=
 ∀(pins:List (Addr × Obj)) (s:Shared) (σ:St) (H:Hp) (R:It→Hp→Prop),Inv X pins σ H s→wi σ H R→
  wpAny (model X.prog X.w) X.A (eval iter X.env) (fun v s1=>wpAny (model X.prog X.w) X.A (pyIter v) (PIE X pins σ tg R) X.xe s1) X.xe s
theorem z1R {M:Model} {A:Around} {E:Value→Shared→Prop} {s:Shared} {tg:Expr} {it:Addr} {u:Value} {o:Obj} {n:String} {vs:Array Value} {Q:Unit→Shared→Prop} (ho:s.heap.get? it=some o) (hc:o.cls=.type n) (hd:o.data=.fields vs)
  (hn:["enumerate","zip","dict_itemiterator","dict_reverseitemiterator","odict_iterator","itertools.zip_longest","itertools.pairwise"].contains n=false) (hQ:Q () s):wpAny M A (letOwnedTupleGo tg (.ref it) u) Q E s:=by
 unfold letOwnedTupleGo
 cases tg <;> first
  | exact wpAny_pure hQ
  | (cases u <;> first
    | exact wpAny_pure hQ
    | (refine wpAny_bind (wpAny_load ho ?_);rw [hc,hd];show wpAny M A (if (["enumerate","zip","dict_itemiterator","dict_reverseitemiterator","odict_iterator","itertools.zip_longest","itertools.pairwise"].contains n&&vs[0]? == some (rawInt _))=true then _ else _) Q E s;rw [kz (by intro h;rw [hn,Bool.false_and] at h;cases h)];exact wpAny_pure hQ))
noncomputable def Itl (K:ky) (a:Addr):It:=
 ⟨fun i H=>∃xs x,SqL K H a xs∧xs[i]?=some x,fun i H x H'=>H'=H∧∀xs,SqL K H a xs→xs[i]?=some x,fun i H=>∃xs,SqL K H a xs∧xs.length≤i⟩
noncomputable def Itt (K:ky) (a:Addr):It:=
 ⟨fun i H=>∃xs x,SqT K H a xs∧xs[i]?=some x,fun i H x H'=>H'=H∧∀xs,SqT K H a xs→xs[i]?=some x,fun i H=>∃xs,SqT K H a xs∧xs.length≤i⟩
noncomputable def Itr (lo:Int) (n:Nat):It:=⟨fun i _=>i < n,fun i H x H'=>H'=H∧x=.int (lo+i),fun i _=>n≤i⟩
theorem z2a {P:Program} {w:World} {K:ky} {tg:Expr} (a it:Addr):Turn P w K tg (Itl K a) [it] it (fun i h=>h.IsListIter it a i) where
 mem:=by simp
 obj:=fun i h st b hb=>by
  have e:b=it:=by simpa using hb
  subst e
  obtain ⟨o,e,c,d⟩:=st
  exact ⟨o,e,fun v z=>by rw [d] at z;cases z⟩
 keep:=fun i h h' st k=>st.at fun o e=>k it (by simp) o e
 item:=by
  intro X hP hw hK hc i pins s σ H E I hf st hg
  subst hP hw hK
  obtain ⟨xs,x,hq,hx⟩:=hg
  obtain ⟨its,rv,p,hz⟩:=I.list hq
  obtain ⟨u,hu,ru⟩:=rv.get hx
  obtain ⟨f0,f1,f2,f3,f4,f5⟩:=hf it (by simp)
  refine wpAny_pyNext_list_item st p.isList (x:=u) (by simpa using hu) fun h' st' sb=>?_
  have I1:Inv X pins σ H { s with heap:=h' }:=I.turned (t':=s.toks) (fun b o hb e=>(sb.2 b hb).trans e) f0 f1 f3 f4 f5
  obtain ⟨o,e,c,d⟩:=id st'
  exact ⟨u,rfl,z1R (s:={ s with heap:=h' }) e c d (by decide) ⟨x,H,I1,ru,⟨rfl,fun ys hy=>by rw [I.list_inj hy hq];exact hx⟩,st',fun b hb=>(hf b hb).1⟩⟩
 done:=by
  intro X hP hw hK hc i pins s σ H E I hf st hg
  subst hP hw hK
  obtain ⟨xs,hq,hx⟩:=hg
  obtain ⟨its,rv,p,hz⟩:=I.list hq
  obtain ⟨f0,f1,f2,f3,f4,f5⟩:=hf it (by simp)
  have hl:=rv.length
  exact wpAny_pyNext_list_end (I.ok.hd hc) st p.isList (by simp;lia) fun h' eb=>⟨rfl,I.turned (t':=s.toks) (fun b o hb e=>eb b o hb e) f0 f1 f3 f4 f5⟩
 self:=fun _ _ _ _ _ st h=>wpAny_pyIter_listiter st h
theorem z1r {P:Program} {w:World} {K:ky} {tg:Expr} (a it:Addr):Turn P w K tg (Itt K a) [it] it (fun i h=>h.IsTupleIter it a i) where
 mem:=by simp
 obj:=fun i h st b hb=>by
  have e:b=it:=by simpa using hb
  subst e
  obtain ⟨o,e,c,d⟩:=st
  exact ⟨o,e,fun v z=>by rw [d] at z;cases z⟩
 keep:=fun i h h' st k=>st.at fun o e=>k it (by simp) o e
 item:=by
  intro X hP hw hK hc i pins s σ H E I hf st hg
  subst hP hw hK
  obtain ⟨xs,x,hq,hx⟩:=hg
  obtain ⟨its,rv,p,hz⟩:=I.tuple hq
  obtain ⟨u,hu,ru⟩:=rv.get hx
  obtain ⟨f0,f1,f2,f3,f4,f5⟩:=hf it (by simp)
  refine wpAny_pyNext_tuple_item st (show s.heap.IsTuple a its.toArray from p) (x:=u) (by simpa using hu) fun h' st' sb=>?_
  have I1:Inv X pins σ H { s with heap:=h' }:=I.turned (t':=s.toks) (fun b o hb e=>(sb.2 b hb).trans e) f0 f1 f3 f4 f5
  obtain ⟨o,e,c,d⟩:=id st'
  exact ⟨u,rfl,z1R (s:={ s with heap:=h' }) e c d (by decide) ⟨x,H,I1,ru,⟨rfl,fun ys hy=>by rw [I.tuple_inj hy hq];exact hx⟩,st',fun b hb=>(hf b hb).1⟩⟩
 done:=by
  intro X hP hw hK hc i pins s σ H E I hf st hg
  subst hP hw hK
  obtain ⟨xs,hq,hx⟩:=hg
  obtain ⟨its,rv,p,hz⟩:=I.tuple hq
  obtain ⟨f0,f1,f2,f3,f4,f5⟩:=hf it (by simp)
  have hl:=rv.length
  exact wpAny_pyNext_tuple_end (I.ok.hd hc) st (show s.heap.IsTuple a its.toArray from p) (by simp;lia) fun h' eb=>⟨rfl,I.turned (t':=s.toks) (fun b o hb e=>eb b o hb e) f0 f1 f3 f4 f5⟩
 self:=fun _ _ _ _ _ st h=>wpAny_pyIter_tupleiter st h
theorem z1s {P:Program} {w:World} {K:ky} {tg:Expr} (it:Addr) (lo:Int) (n:Nat):Turn P w K tg (Itr lo n) [it] it (fun i h=>IsRangeIter h it (lo+(i:Nat) * 1) ((n:Int) - (i:Nat)) 1) where
 mem:=by simp
 obj:=fun i h st b hb=>by
  have e:b=it:=by simpa using hb
  subst e
  exact ⟨_,st,fun v z=>by
   have z':Data.fields _=Data.cell v:=z
   cases z'⟩
 keep:=fun i h h' st k=>k it (by simp) _ st
 item:=by
  intro X hP hw hK hc i pins s σ H E I hf st hg
  subst hP hw hK
  obtain ⟨f0,f1,f2,f3,f4,f5⟩:=hf it (by simp)
  have W:=Walks.range (prog:=X.prog) (w:=X.w) (I.ok.hd hc) it lo 1 n
  refine W.item i s _ _ hg st fun v h' tk hv st' kk=>?_
  obtain ⟨t,rfl⟩:=hv
  have I1:Inv X pins σ H { s with heap:=h',toks:=tk }:=I.turned (fun b o hb e=>kk b o (by simpa using hb) e) f0 f1 f3 f4 f5
  refine ⟨_,rfl,z1R (s:={ s with heap:=h',toks:=tk }) (n:="range_iterator") st' rfl rfl (by decide) ⟨.int (lo+i),H,I1,⟨t,?_⟩,⟨rfl,rfl⟩,st',fun b hb=>(hf b hb).1⟩⟩
  rw [Int.mul_one]
 done:=by
  intro X hP hw hK hc i pins s σ H E I hf st hg
  subst hP hw hK
  obtain ⟨f0,f1,f2,f3,f4,f5⟩:=hf it (by simp)
  exact wpAny_pyNext_range_end (I.ok.hd hc) st (by have:n≤i:=hg;lia) fun h' eb=>⟨rfl,I.turned (t':=s.toks) (fun b o hb e=>eb b o hb e) f0 f1 f3 f4 f5⟩
 self:=fun _ _ _ _ _ st h=>wpAny_pyIter_rangeiter st h
end L2
namespace L2
open PySem PySem.Spec PyProof.Rows
section
variable {X:Cx} {tg:Expr}
def z9u (K:ky) (tl:TE):TI:=fun σ H R=>tl σ H fun x H1=>∃a,x=.ref a∧(∃xs,SqL K H1 a xs)∧R (Itl K a) H1
def iTup (K:ky) (tl:TE):TI:=fun σ H R=>tl σ H fun x H1=>∃a,x=.ref a∧(∃xs,SqT K H1 a xs)∧R (Itt K a) H1
theorem Zo {l:Expr} {tl:TE} (hl:PE X l tl):PI X tg l (z9u X.K tl):=by
 intro pins s σ H R I h
 refine thn (hl pins s σ H _ I h) fun v s1 zz=>?_
 obtain ⟨x,H1,I1,r1,q1⟩:=zz
 obtain ⟨a,e,⟨xs,hq⟩,q⟩:=q1
 subst e
 cases r1
 obtain ⟨its,rv,p,hz⟩:=I1.list hq
 refine wpAny_pyIter_list p.isList ?_
 refine ⟨s1.heap.objs.size,[s1.heap.objs.size],_,_,H1,rfl,I1.kept (t':=s1.toks) fun b o e=>Heap.get?_push_of_some _ e,z2a a _,⟨_,Heap.get?_push_size _ rfl,rfl,rfl⟩,fun b hb=>?_,q⟩
 have e:b=s1.heap.objs.size:=by simpa using hb
 subst e
 exact I1.fpOk (ke _) (I1.hok.fresh (ke _))
theorem z81 {l:Expr} {tl:TE} (hl:PE X l tl):PI X tg l (iTup X.K tl):=by
 intro pins s σ H R I h
 refine thn (hl pins s σ H _ I h) fun v s1 zz=>?_
 obtain ⟨x,H1,I1,r1,q1⟩:=zz
 obtain ⟨a,e,⟨xs,hq⟩,q⟩:=q1
 subst e
 cases r1
 obtain ⟨its,rv,p,hz⟩:=I1.tuple hq
 refine wpAny_pyIter_tuple (show s1.heap.IsTuple a its.toArray from p) ?_
 refine ⟨s1.heap.objs.size,[s1.heap.objs.size],_,_,H1,rfl,I1.kept (t':=s1.toks) fun b o e=>Heap.get?_push_of_some _ e,z1r a _,⟨_,Heap.get?_push_size _ rfl,rfl,rfl⟩,fun b hb=>?_,q⟩
 have e:b=s1.heap.objs.size:=by simpa using hb
 subst e
 exact I1.fpOk (ke _) (I1.hok.fresh (ke _))
theorem z4r {pins:List (Addr × Obj)} {σ:St} {H:Hp} {s:Shared} {R:It→Hp→Prop} {E:Value→Shared→Prop} {lo hi:Int} {t u v:Tok} {tk:Nat} (I:Inv X pins σ H s) (h1: -(2 ^ 62)≤lo) (h2:lo < 2 ^ 62) (h3: -(2 ^ 62)≤hi) (h4:hi < 2 ^ 62)
  (q:R (Itr lo (hi - lo).toNat) H):wpAny (model X.prog X.w) X.A (pyIter (.ref s.heap.objs.size)) (PIE X pins σ tg R) E { s with heap:=s.heap.push { cls:=.type "range",data:=.fields #[.int lo t,.int hi u,.int 1 v] },toks:=tk }:=by
 refine wpAny_pyIter_range (IsRange.new ..) (small_one h1 h2 h3 h4) ?_
 have I1:Inv X pins σ H { s with heap:=s.heap.push { cls:=.type "range",data:=.fields #[.int lo t,.int hi u,.int 1 v] },toks:=tk }:=I.kept fun b o e=>Heap.get?_push_of_some _ e
 refine ⟨(s.heap.push { cls:=.type "range",data:=.fields #[.int lo t,.int hi u,.int 1 v] }).objs.size,[(s.heap.push { cls:=.type "range",data:=.fields #[.int lo t,.int hi u,.int 1 v] }).objs.size],_,_,H,rfl,
  I1.kept (t':=tk) fun b o e=>Heap.get?_push_of_some _ e,z1s _ lo (hi - lo).toNat,?_,fun b hb=>?_,q⟩
 ·have e1:lo+((0:Nat):Int) * 1=lo:=by simp
  have e2:(((hi - lo).toNat:Nat):Int) - ((0:Nat):Int)=Builtin.Range.rangeSize lo hi 1:=by rw [rangeSize_one];split <;> lia
  show IsRangeIter _ _ (lo+((0:Nat):Int) * 1) ((((hi - lo).toNat:Nat):Int) - ((0:Nat):Int)) 1
  rw [e1,e2]
  exact Heap.get?_push_size _ rfl
 ·have e:b=(s.heap.push { cls:=.type "range",data:=.fields #[.int lo t,.int hi u,.int 1 v] }).objs.size:=by simpa using hb
  subst e
  exact I1.fpOk (ke _) (I1.hok.fresh (ke _))
def z9t (ta:TA):TI:=fun σ H R=>ta σ H fun vs H1=>∃j:Int,vs=[.int j]∧-(2 ^ 62)≤j∧j < 2 ^ 62∧R (Itr 0 j.toNat) H1
theorem jd {a:Expr} {ta:TA} {p pos:Pos} (hg:Gl X "range") (hm:X.mg "range"=none) (ha:PA X [a] ta) (hs:autoParam (starEach [a] X.env=[(false,eval a X.env)]) aR._auto_1):PI X tg (.Call (.Name "range" p) [a] [] pos) (z9t ta):=by
 intro pins s σ H R I h
 refine Call_ (ZD I hg hm boot_range (PyProof.Rows.callWith_type1 (thn (ha pos pins s σ H _ I h) fun us s1 ⟨vs,H1,I1,r1,q1⟩=>?_) hs rfl))
 obtain ⟨j,e,q1,q2,q⟩:=q1
 subst e
 cases r1 with
 | cons r rr=>
  cases rr
  obtain ⟨t,rfl⟩:=r
  exact call_range_1 (z4r I1 (by lia) (by lia) q1 q2 (by simpa using q))
def tFor (wi:TI) (g:TG) (tb:TS):TS:=fun D σ H=>wi σ H fun J H1=>∃W:Nat→Nat→St→Hp→Prop,(∃m,W 0 m σ H1)∧∀i m σ H,W i m σ H→
 (J.stop i H∧D.nx σ H)∨(J.go i H∧∃N:St→Hp→Prop,(∀σ' H',N σ' H'→∃m',m' < m∧W (i+1) m' σ' H')∧∀x H',J.yld i H x H'→g x σ H' fun σ2 H2=>tb { D with nx:=N,ct:=N,bk:=D.nx } σ2 H2)
noncomputable def Jw (fp:List Addr) (h:Heap):List (Addr × Obj):=fp.filterMap fun b=>(h.get? b).map fun o=>(b,o)
theorem jF {fp:List Addr} {h:Heap} {b:Addr} {o:Obj} (hb:b∈fp) (e:h.get? b=some o):(b,o)∈Jw fp h:=List.mem_filterMap.mpr ⟨b,hb,by rw [e];rfl⟩
theorem z37 {fp:List Addr} {h:Heap} {p:Addr × Obj} (hp:p∈Jw fp h):p.1∈fp∧h.get? p.1=some p.2:=by
 obtain ⟨b,hb,e⟩:=List.mem_filterMap.mp hp
 cases q:h.get? b with
 | none=>rw [q] at e;cases e
 | some o=>
  rw [q] at e
  have e':(b,o)=p:=kB e
  subst e'
  exact ⟨hb,q⟩
theorem Inv.pinned {pins:List (Addr × Obj)} {σ:St} {H:Hp} {s:Shared} {fp:List Addr} (I:Inv X pins σ H s) (hf:∀b∈fp,FpOk X pins H b) (ho:∀b∈fp,∃o,s.heap.get? b=some o∧∀v,o.data≠.cell v):Inv X (pins++Jw fp s.heap) σ H s:=
 I.pins_of fun p hp=>(kR.mp hp).elim (fun z=>I.pin p (kM _ z)) fun z=>by
  obtain ⟨hb,e⟩:=z37 z
  obtain ⟨f0,f1,f2,_⟩:=hf p.1 hb
  obtain ⟨o,e',d⟩:=ho p.1 hb
  rw [e] at e';cases e'
  exact ⟨e,f0,f1,f2,d⟩
theorem Inv.unpinned {pins pl:List (Addr × Obj)} {σ:St} {H:Hp} {s:Shared} (I:Inv X (pins++pl) σ H s):Inv X pins σ H s:=I.pins_of fun p hp=>I.pin p (kM _ (kN _ hp))
theorem jw {iter:Expr} {body:List Stmt} {wi:TI} {g:TG} {tb:TS} {pos:Pos} (hp:PassesOwn (model X.prog X.w) X.A X.env X.xe) (hc:X.calm=true) (hi:PI X tg iter wi) (hg:PG X tg g) (hb:PSs X body tb)
  (hs:∀x,foldedSetIterable iter X.env x=pure x:=by intro _;rfl):PS X (.For tg iter body [] pos) (tFor wi g tb):=by
 intro pins s σ H D I h
 refine wpAny_For (thn (hi pins s σ H _ I h) fun v s1 h1=>thn h1 fun itv s2 h2=>?_) hs
 obtain ⟨it,fp,tn,J,H2,e,I2,T,st2,f2,W,⟨m0,w0⟩,turn⟩:=h2
 subst e
 have stat:∀{H':Hp},(∀b∈fp,H' b=none)→∀b∈fp,FpOk X pins H' b:=fun hn b hb=>⟨hn b hb,(f2 b hb).2⟩
 refine codeAny_forLoop_any (fun n s'=>∃i σ' H',Inv X pins σ' H' s'∧tn i s'.heap∧(∀b∈fp,H' b=none)∧W i n σ' H') ?_ m0 ⟨0,σ,H2,I2,st2,fun b hb=>(f2 b hb).1,w0⟩
 rintro n s3 ⟨i,σ3,H3,I3,st3,fr3,w3⟩
 rcases turn i n σ3 H3 w3 with ⟨stop,qn⟩ | ⟨go,N,hN,step⟩
 ·refine wpAny_passesOwn hp (thn (T.done X rfl rfl rfl hc i pins s3 σ3 H3 X.xe I3 (stat fr3) st3 stop) fun r s4 zz=>?_)
  obtain ⟨hr,I4⟩:=zz
  subst hr
  exact wpAny_execs_nil ⟨σ3,H3,I4,qn⟩
 ·refine wpAny_passesOwn hp (thn (T.item X rfl rfl rfl hc i pins s3 σ3 H3 X.xe I3 (stat fr3) st3 go) fun r s4 zz=>?_)
  obtain ⟨u,hr,h4⟩:=zz
  subst hr
  refine wpAny_passesOwn hp (thn h4 fun _ s5 zz=>?_)
  obtain ⟨x,H5,I5,r5,y5,st5,fr5⟩:=zz
  have I5':=I5.pinned (stat fr5) (T.obj _ _ st5)
  refine wpAny_passesOwn hp (thn (hg _ s5 σ3 H5 x u _ I5' r5 (step x H5 y5)) fun _ s6 zz=>?_)
  obtain ⟨σ6,H6,I6,q6⟩:=zz
  refine wpAny_passesOwn hp (thn (hb _ s6 σ6 H6 _ I6 q6) fun f s7 q7=>?_)
  have again:∀{σ7:St} {H7:Hp},Inv X (pins++Jw fp s5.heap) σ7 H7 s7→N σ7 H7→∃m,m < n∧∃i σ' H',Inv X pins σ' H' s7∧tn i s7.heap∧(∀b∈fp,H' b=none)∧W i m σ' H':=fun {σ7 H7} I7 n7=>by
   obtain ⟨m',hm,w7⟩:=hN σ7 H7 n7
   refine ⟨m',hm,i+1,σ7,H7,I7.unpinned,T.keep _ _ _ st5 fun b hb o e=>(I7.pin (b,o) (kM _ (kM _ (jF hb e)))).1,fun b hb=>?_,w7⟩
   obtain ⟨o,e,d⟩:=T.obj _ _ st5 b hb
   exact (I7.pin (b,o) (kM _ (kM _ (jF hb e)))).2.1
  cases f with
  | next=>obtain ⟨σ7,H7,I7,n7⟩:=q7;exact again I7 n7
  | cont=>obtain ⟨σ7,H7,I7,n7⟩:=q7;exact again I7 n7
  | brk=>obtain ⟨σ7,H7,I7,q7⟩:=q7;exact ⟨σ7,H7,I7.unpinned,q7⟩
  | ret v=>obtain ⟨x7,σ7,H7,I7,r7,q7⟩:=q7;exact ⟨x7,σ7,H7,I7.unpinned,r7,q7⟩
end
theorem Jc {K:ky} {a:Addr} {xs:List V} {g:TG} {tb:TS} {D:Ends} {σ:St} {H:Hp} (Pv:Nat→St→Hp→Prop) (h0:Pv 0 σ H) (hl:∀i σ H,i≤xs.length→Pv i σ H→SqL K H a xs)
  (hs:∀i x σ H,xs[i]?=some x→Pv i σ H→g x σ H fun σ2 H2=>tb { D with nx:=Pv (i+1),ct:=Pv (i+1),bk:=D.nx } σ2 H2) (hd:∀σ H,Pv xs.length σ H→D.nx σ H):
  ∃W:Nat→Nat→St→Hp→Prop,(∃m,W 0 m σ H)∧∀i m σ H,W i m σ H→
   ((Itl K a).stop i H∧D.nx σ H)∨((Itl K a).go i H∧∃N:St→Hp→Prop,(∀σ' H',N σ' H'→∃m',m' < m∧W (i+1) m' σ' H')∧∀x H',(Itl K a).yld i H x H'→g x σ H' fun σ2 H2=>tb { D with nx:=N,ct:=N,bk:=D.nx } σ2 H2):=by
 refine ⟨fun i m σ H=>m=xs.length - i∧i≤xs.length∧Pv i σ H,⟨xs.length,by simp,Nat.zero_le _,h0⟩,?_⟩
 rintro i m σ H ⟨rfl,hi,p⟩
 have q:=hl i σ H hi p
 by_cases hlt:i < xs.length
 ·refine .inr ⟨⟨xs,xs[i],q,by simp [hlt]⟩,Pv (i+1),fun σ' H' p'=>⟨xs.length - (i+1),by lia,rfl,hlt,p'⟩,fun x H' y=>?_⟩
  obtain ⟨e,y⟩:=y
  subst e
  exact hs i x σ _ (y xs q) p
 ·have e:i=xs.length:=by lia
  subst e
  exact .inl ⟨⟨xs,q,ke _⟩,hd σ H p⟩
theorem z6U {K:ky} {a:Addr} {xs:List V} {g:TG} {tb:TS} {D:Ends} {σ:St} {H:Hp} (Pv:Nat→St→Hp→Prop) (h0:Pv 0 σ H) (hl:∀i σ H,i≤xs.length→Pv i σ H→SqT K H a xs)
  (hs:∀i x σ H,xs[i]?=some x→Pv i σ H→g x σ H fun σ2 H2=>tb { D with nx:=Pv (i+1),ct:=Pv (i+1),bk:=D.nx } σ2 H2) (hd:∀σ H,Pv xs.length σ H→D.nx σ H):
  ∃W:Nat→Nat→St→Hp→Prop,(∃m,W 0 m σ H)∧∀i m σ H,W i m σ H→
   ((Itt K a).stop i H∧D.nx σ H)∨((Itt K a).go i H∧∃N:St→Hp→Prop,(∀σ' H',N σ' H'→∃m',m' < m∧W (i+1) m' σ' H')∧∀x H',(Itt K a).yld i H x H'→g x σ H' fun σ2 H2=>tb { D with nx:=N,ct:=N,bk:=D.nx } σ2 H2):=by
 refine ⟨fun i m σ H=>m=xs.length - i∧i≤xs.length∧Pv i σ H,⟨xs.length,by simp,Nat.zero_le _,h0⟩,?_⟩
 rintro i m σ H ⟨rfl,hi,p⟩
 have q:=hl i σ H hi p
 by_cases hlt:i < xs.length
 ·refine .inr ⟨⟨xs,xs[i],q,by simp [hlt]⟩,Pv (i+1),fun σ' H' p'=>⟨xs.length - (i+1),by lia,rfl,hlt,p'⟩,fun x H' y=>?_⟩
  obtain ⟨e,y⟩:=y
  subst e
  exact hs i x σ _ (y xs q) p
 ·have e:i=xs.length:=by lia
  subst e
  exact .inl ⟨⟨xs,q,ke _⟩,hd σ H p⟩
theorem jz {lo:Int} {n:Nat} {g:TG} {tb:TS} {D:Ends} {σ:St} {H:Hp} (Pv:Nat→St→Hp→Prop) (h0:Pv 0 σ H)
  (hs:∀i σ H,i < n→Pv i σ H→g (.int (lo+i)) σ H fun σ2 H2=>tb { D with nx:=Pv (i+1),ct:=Pv (i+1),bk:=D.nx } σ2 H2) (hd:∀σ H,Pv n σ H→D.nx σ H):
  ∃W:Nat→Nat→St→Hp→Prop,(∃m,W 0 m σ H)∧∀i m σ H,W i m σ H→
   ((Itr lo n).stop i H∧D.nx σ H)∨((Itr lo n).go i H∧∃N:St→Hp→Prop,(∀σ' H',N σ' H'→∃m',m' < m∧W (i+1) m' σ' H')∧∀x H',(Itr lo n).yld i H x H'→g x σ H' fun σ2 H2=>tb { D with nx:=N,ct:=N,bk:=D.nx } σ2 H2):=by
 refine ⟨fun i m σ H=>m=n - i∧i≤n∧Pv i σ H,⟨n,by simp,Nat.zero_le _,h0⟩,?_⟩
 rintro i m σ H ⟨rfl,hi,p⟩
 by_cases hlt:i < n
 ·refine .inr ⟨hlt,Pv (i+1),fun σ' H' p'=>⟨n - (i+1),by lia,rfl,hlt,p'⟩,fun x H' y=>?_⟩
  obtain ⟨e,y⟩:=y
  subst e y
  exact hs i σ _ hlt p
 ·have e:i=n:=by lia
  subst e
  exact .inl ⟨ke _,hd σ H p⟩
end L2
namespace L2
open PySem PySem.Spec PyProof.Rows
abbrev R2:=V→V→Hp→VK→Prop
def OpR (X:Cx) (f:Value→Value→Sem Value) (r:R2):Prop:=
 ∀(pins:List (Addr × Obj)) (s:Shared) (σ:St) (H:Hp) (x y:V) (v u:Value) (Q:VK),Inv X pins σ H s→RelV x v→RelV y u→r x y H Q→
  wpAny (model X.prog X.w) X.A (f v u) (EP X pins σ Q) X.xe s
def UnR (X:Cx) (f:Value→Sem Value) (r:V→Hp→VK→Prop):Prop:=
 ∀(pins:List (Addr × Obj)) (s:Shared) (σ:St) (H:Hp) (x:V) (v:Value) (Q:VK),Inv X pins σ H s→RelV x v→r x H Q→
  wpAny (model X.prog X.w) X.A (f v) (EP X pins σ Q) X.xe s
def Zj (X:Cx) (f:Value) (r:List V→Hp→VK→Prop):Prop:=
 ∀(pins:List (Addr × Obj)) (s:Shared) (σ:St) (H:Hp) (xs:List V) (us:List Value) (Q:VK),Inv X pins σ H s→Vals xs us→r xs H Q→
  wpAny (model X.prog X.w) X.A (call f us) (EP X pins σ Q) X.xe s
def TruR (X:Cx) (r:V→Hp→(Bool→Hp→Prop)→Prop):Prop:=
 ∀(pins:List (Addr × Obj)) (s:Shared) (σ:St) (H:Hp) (x:V) (v:Value) (Q:Bool→Hp→Prop),Inv X pins σ H s→RelV x v→r x H Q→
  wpAny (model X.prog X.w) X.A (truthy v) (TP X pins σ Q) X.xe s
def tOp (r:R2) (ta tb:TE):TE:=fun σ H Q=>ta σ H fun x H1=>tb σ H1 fun y H2=>r x y H2 Q
def tUn (r:V→Hp→VK→Prop) (ta:TE):TE:=fun σ H Q=>ta σ H fun x H1=>r x H1 Q
def rI (C:Int→Int→Prop) (g:Int→Int→V):R2:=fun x y H Q=>∃i j,x=.int i∧y=.int j∧C i j∧Q (g i j) H
def rI0 (g:Int→Int→V):R2:=fun x y H Q=>∃i j,x=.int i∧y=.int j∧Q (g i j) H
def rU (g:Int→V):V→Hp→VK→Prop:=fun x H Q=>∃i,x=.int i∧Q (g i) H
section
variable {X:Cx} {a b c:Expr} {ta tb tc:TE} {pos:Pos}
theorem binT (ha:PE X a ta) (hb:PE X b tb) {pins:List (Addr × Obj)} {s:Shared} {σ:St} {H:Hp} {R:V→V→Hp→Prop} (I:Inv X pins σ H s)
  (h:ta σ H fun x H1=>tb σ H1 fun y H2=>R x y H2) {Q:Value→Shared→Prop} {f:Value→Value→Sem Value}
  (hf:∀v u s2 x y H2,Inv X pins σ H2 s2→RelV x v→RelV y u→R x y H2→wpAny (model X.prog X.w) X.A (f v u) Q X.xe s2):
  wpAny (model X.prog X.w) X.A (eval a X.env) (fun v s₁=>wpAny (model X.prog X.w) X.A (eval b X.env) (fun u s₂=>wpAny (model X.prog X.w) X.A (f v u) Q X.xe s₂) X.xe s₁) X.xe s:=by
 refine thn (ha pins s σ H _ I h) fun v s1 zz=>?_
 obtain ⟨x,H1,I1,r1,q1⟩:=zz
 refine thn (hb pins s1 σ H1 _ I1 q1) fun u s2 zz=>?_
 obtain ⟨y,H2,I2,r2,q2⟩:=zz
 exact hf v u s2 x y H2 I2 r1 r2 q2
theorem zN {op:Operator} {r:R2} (ho:OpR X (binaryOp op) r) (ha:PE X a ta) (hb:PE X b tb):PE X (.BinOp a op b pos) (tOp r ta tb):=by
 intro pins s σ H Q I h
 exact wpAny_BinOp (binT ha hb I h fun v u s2 x y H2 I2 rx ry q=>ho pins s2 σ H2 x y v u Q I2 rx ry q)
theorem Zp {op:UnaryOp} {r:V→Hp→VK→Prop} (ho:UnR X (unaryOp op) r) (ha:PE X a ta):PE X (.UnaryOp op a pos) (tUn r ta):=by
 intro pins s σ H Q I h
 exact UnaryOp_ (thn (ha pins s σ H _ I h) fun v s1 ⟨x,H1,I1,r1,q1⟩=>ho pins s1 σ H1 x v Q I1 r1 q1)
theorem opI {f:Value→Value→Sem Value} {C:Int→Int→Prop} {g:Int→Int→Int}
  (rule:∀(i j:Int) (t u:Tok) (s:Shared) (Q:Value→Shared→Prop) (E:Value→Shared→Prop),C i j→Q (.int (g i j) s.toks) { s with toks:=s.toks+1 }→wpAny (model X.prog X.w) X.A (f (.int i t) (.int j u)) Q E s):
  OpR X f (rI C fun i j=>.int (g i j)):=by
 intro pins s σ H x y v u Q I rx ry h
 obtain ⟨i,j,rfl,rfl,hc,q⟩:=h
 obtain ⟨t,rfl⟩:=rx
 obtain ⟨t',rfl⟩:=ry
 exact rule i j t t' s _ _ hc ⟨.int (g i j),H,I.tok _,⟨_,rfl⟩,q⟩
theorem opI0 {f:Value→Value→Sem Value} {g:Int→Int→Int}
  (rule:∀(i j:Int) (t u:Tok) (s:Shared) (Q:Value→Shared→Prop) (E:Value→Shared→Prop),Q (.int (g i j) s.toks) { s with toks:=s.toks+1 }→wpAny (model X.prog X.w) X.A (f (.int i t) (.int j u)) Q E s):
  OpR X f (rI0 fun i j=>.int (g i j)):=by
 intro pins s σ H x y v u Q I rx ry h
 obtain ⟨i,j,rfl,rfl,q⟩:=h
 obtain ⟨t,rfl⟩:=rx
 obtain ⟨t',rfl⟩:=ry
 exact rule i j t t' s _ _ ⟨.int (g i j),H,I.tok _,⟨_,rfl⟩,q⟩
theorem opB0 {f:Value→Value→Sem Value} {g:Int→Int→Bool}
  (rule:∀(i j:Int) (t u:Tok) (s:Shared) (Q:Value→Shared→Prop) (E:Value→Shared→Prop),Q (.bool (g i j)) s→wpAny (model X.prog X.w) X.A (f (.int i t) (.int j u)) Q E s):
  OpR X f (rI0 fun i j=>.bl (g i j)):=by
 intro pins s σ H x y v u Q I rx ry h
 obtain ⟨i,j,rfl,rfl,q⟩:=h
 obtain ⟨t,rfl⟩:=rx
 obtain ⟨t',rfl⟩:=ry
 exact rule i j t t' s _ _ ⟨.bl (g i j),H,I,rfl,q⟩
def CDiv (i j:Int):Prop:=0 < j∧j < 1073741824
def CPow (i j:Int):Prop:=0≤j∧j≤1000000∧i.natAbs < 2 ^ 64
def CMul (i j:Int):Prop:=(-(2 ^ 64) < i∧i < 2 ^ 64)∨(-(2 ^ 64) < j∧j < 2 ^ 64)
theorem CMul.ok {i j:Int} (h:CMul i j):IntMulOk i j:=by
 rcases h with ⟨h1,h2⟩ | ⟨h1,h2⟩
 ·exact .of_left (intBits_le_64 h1 h2)
 ·exact .of_right (intBits_le_64 h1 h2)
theorem qO:OpR X (binaryOp .Add) (rI0 fun i j=>.int (i+j)):=opI0 fun _ _ _ _ _ _ _ q=>add_int q
theorem QG:OpR X (binaryOp .Sub) (rI0 fun i j=>.int (i - j)):=opI0 fun _ _ _ _ _ _ _ q=>sub_int q
theorem JA:OpR X (binaryOp .Mult) (rI CMul fun i j=>.int (i * j)):=opI fun _ _ _ _ _ _ _ hc q=>mul_int q hc.ok
theorem Q8:OpR X (binaryOp .FloorDiv) (rI CDiv fun i j=>.int (i / j)):=opI fun i j _ _ _ _ _ hc q=>by
 have h1:(0:Int) < j:=hc.1
 have h2:j < 1073741824:=hc.2
 exact floordiv_int (by lia) (by rw [Int.fdiv_eq_ediv_of_nonneg i (by lia)];exact q) (.inl (PyProof.noPylong_small (by lia)))
theorem Q6:OpR X (binaryOp .Mod) (rI (fun _ j=>0 < j) fun i j=>.int (i % j)):=opI fun i j _ _ _ _ _ hc q=>by
 have h1:(0:Int) < j:=hc
 exact mod_int' (by lia) (by rw [Int.fmod_eq_emod_of_nonneg i (by lia)];exact q)
theorem z6F:OpR X (binaryOp .Mod) (rI (fun _ j=>j≠0) fun i j=>.int (i.fmod j)):=opI fun _ _ _ _ _ _ _ hc q=>mod_int' hc q
theorem z33:OpR X (binaryOp .Pow) (rI CPow fun i j=>.int (i ^ j.toNat)):=opI fun _ _ _ _ _ _ _ hc q=>pow_int_small hc.1 hc.2.1 hc.2.2 q
theorem unI {f:Value→Sem Value} {g:Int→Int}
  (rule:∀(i:Int) (t:Tok) (s:Shared) (Q:Value→Shared→Prop) (E:Value→Shared→Prop),Q (.int (g i) s.toks) { s with toks:=s.toks+1 }→wpAny (model X.prog X.w) X.A (f (.int i t)) Q E s):
  UnR X f (rU fun i=>.int (g i)):=by
 intro pins s σ H x v Q I rx h
 obtain ⟨i,rfl,q⟩:=h
 obtain ⟨t,rfl⟩:=rx
 exact rule i t s _ _ ⟨.int (g i),H,I.tok _,⟨_,rfl⟩,q⟩
theorem jb:UnR X (unaryOp .USub) (rU fun i=>.int (-i)):=unI fun _ _ _ _ _ q=>neg_int q
end
noncomputable def scal:V→V→Bool
 | .non,.non=>true | .non,.int _=>true | .int _,.non=>true | .non,.bl _=>true | .bl _,.non=>true | .non,.str _=>true | .str _,.non=>true
 | .int _,.int _=>true | .bl _,.bl _=>true | .str _,.str _=>true | .byt _,.byt _=>true
 | .int _,.str _=>true | .str _,.int _=>true | .bl _,.str _=>true | .str _,.bl _=>true
 | _,_=>false
def rEq:R2:=fun x y H Q=>scal x y=true∧Q (.bl (decide (x=y))) H
def rNe:R2:=fun x y H Q=>scal x y=true∧Q (.bl (!decide (x=y))) H
theorem z3V {i j:Int}:decide (V.int i=V.int j)=(i == j):=by
 rw [Bool.eq_iff_iff]
 simp
theorem JW {i j:Bool}:decide (V.bl i=V.bl j)=(i == j):=by
 rw [Bool.eq_iff_iff]
 simp
theorem z3U {i j:Str}:decide (V.str i=V.str j)=(i == j):=by
 rw [Bool.eq_iff_iff]
 simp
theorem z3W {i j:Array UInt8}:decide (V.byt i=V.byt j)=(i.toList == j.toList):=by
 rw [Bool.eq_iff_iff]
 cases i
 cases j
 simp
section
variable {X:Cx} {a b c:Expr} {ta tb tc:TE} {pos:Pos}
theorem zS {pins:List (Addr × Obj)} {σ:St} {H:Hp} {s:Shared} {Q:VK} {k k':Bool} (I:Inv X pins σ H s) (q:Q (.bl k) H) (e:k=k'):EP X pins σ Q (.bool k') s:=by
 subst e
 exact ⟨.bl k,H,I,rfl,q⟩
theorem qz:OpR X (compareOp .Eq) rEq:=by
 intro pins s σ H x y v u Q I rx ry h
 obtain ⟨hs,q⟩:=h
 cases x with
 | non=>
  cases rx
  cases y with
  | non=>cases ry;exact PySem.EqNone.eq_none_none (zS I q (by simp))
  | bl j=>cases ry;exact PySem.EqNone.eq_none_bool (zS I q (by simp))
  | int j=>obtain ⟨t',rfl⟩:=ry;exact PySem.EqNone.eq_none_int (zS I q (by simp))
  | str j=>obtain ⟨t',rfl⟩:=ry;exact PySem.EqNone.eq_none_str (zS I q (by simp))
  | _=>exact absurd (show false=true from hs) ka
 | bl i=>
  cases rx
  cases y with
  | non=>cases ry;exact PySem.EqNone.eq_bool_none (zS I q (by simp))
  | bl j=>cases ry;exact eq_bool (zS I q JW)
  | str j=>obtain ⟨t',rfl⟩:=ry;exact PySem.EqMixed.eq_bool_str (zS I q (by simp))
  | _=>exact absurd (show false=true from hs) ka
 | int i=>
  obtain ⟨t,rfl⟩:=rx
  cases y with
  | non=>cases ry;exact PySem.EqNone.eq_int_none (zS I q (by simp))
  | int j=>obtain ⟨t',rfl⟩:=ry;exact eq_int (zS I q z3V)
  | str j=>obtain ⟨t',rfl⟩:=ry;exact PySem.EqMixed.eq_int_str (zS I q (by simp))
  | _=>exact absurd (show false=true from hs) ka
 | str i=>
  obtain ⟨t,rfl⟩:=rx
  cases y with
  | non=>cases ry;exact PySem.EqNone.eq_str_none (zS I q (by simp))
  | bl j=>cases ry;exact PySem.EqMixed.eq_str_bool (zS I q (by simp))
  | int j=>obtain ⟨t',rfl⟩:=ry;exact PySem.EqMixed.eq_str_int (zS I q (by simp))
  | str j=>obtain ⟨t',rfl⟩:=ry;exact eq_str (zS I q z3U)
  | _=>exact absurd (show false=true from hs) ka
 | byt i=>
  obtain ⟨t,rfl⟩:=rx
  cases y with
  | byt j=>obtain ⟨t',rfl⟩:=ry;exact PySem.W.eq_bytes (zS I q z3W)
  | _=>exact absurd (show false=true from hs) ka
 | _=>cases y <;> exact absurd (show false=true from hs) ka
theorem z1B:OpR X (compareOp .NotEq) rNe:=by
 intro pins s σ H x y v u Q I rx ry h
 obtain ⟨hs,q⟩:=h
 cases x with
 | non=>
  cases rx
  cases y with
  | non=>cases ry;exact PySem.EqNone.ne_none_none (zS I q (by simp))
  | bl j=>cases ry;exact PySem.EqNone.ne_none_bool (zS I q (by simp))
  | int j=>obtain ⟨t',rfl⟩:=ry;exact PySem.EqNone.ne_none_int (zS I q (by simp))
  | str j=>obtain ⟨t',rfl⟩:=ry;exact PySem.EqNone.ne_none_str (zS I q (by simp))
  | _=>exact absurd (show false=true from hs) ka
 | bl i=>
  cases rx
  cases y with
  | non=>cases ry;exact PySem.EqNone.ne_bool_none (zS I q (by simp))
  | bl j=>cases ry;exact ne_bool (zS I q (congrArg not JW))
  | str j=>obtain ⟨t',rfl⟩:=ry;exact PySem.EqMixed.ne_bool_str (zS I q (by simp))
  | _=>exact absurd (show false=true from hs) ka
 | int i=>
  obtain ⟨t,rfl⟩:=rx
  cases y with
  | non=>cases ry;exact PySem.EqNone.ne_int_none (zS I q (by simp))
  | int j=>obtain ⟨t',rfl⟩:=ry;exact ne_int (zS I q (congrArg not z3V))
  | str j=>obtain ⟨t',rfl⟩:=ry;exact PySem.EqMixed.ne_int_str (zS I q (by simp))
  | _=>exact absurd (show false=true from hs) ka
 | str i=>
  obtain ⟨t,rfl⟩:=rx
  cases y with
  | non=>cases ry;exact PySem.EqNone.ne_str_none (zS I q (by simp))
  | bl j=>cases ry;exact PySem.EqMixed.ne_str_bool (zS I q (by simp))
  | int j=>obtain ⟨t',rfl⟩:=ry;exact PySem.EqMixed.ne_str_int (zS I q (by simp))
  | str j=>obtain ⟨t',rfl⟩:=ry;exact ne_str (zS I q (congrArg not z3U))
  | _=>exact absurd (show false=true from hs) ka
 | byt i=>
  obtain ⟨t,rfl⟩:=rx
  cases y with
  | byt j=>obtain ⟨t',rfl⟩:=ry;exact PySem.W.ne_bytes (zS I q (congrArg not z3W))
  | _=>exact absurd (show false=true from hs) ka
 | _=>cases y <;> exact absurd (show false=true from hs) ka
theorem z4A:OpR X (compareOp .Lt) (rI0 fun i j=>.bl (decide (i < j))):=opB0 fun _ _ _ _ _ _ _ q=>lt_int q
theorem z0s:OpR X (compareOp .LtE) (rI0 fun i j=>.bl (decide (i≤j))):=opB0 fun _ _ _ _ _ _ _ q=>le_int q
theorem z34:OpR X (compareOp .Gt) (rI0 fun i j=>.bl (decide (j < i))):=opB0 fun _ _ _ _ _ _ _ q=>gt_int q
theorem z88:OpR X (compareOp .GtE) (rI0 fun i j=>.bl (decide (j≤i))):=opB0 fun _ _ _ _ _ _ _ q=>ge_int q
theorem Q7:OpR X (compareOp .Is) (fun x y H Q=>y=.non∧Q (.bl (decide (x=.non))) H):=by
 intro pins s σ H x y v u Q I rx ry h
 obtain ⟨rfl,q⟩:=h
 cases ry
 refine is_none_gen (zS I q ?_)
 cases x <;> first
  | (cases rx;rfl)
  | (obtain ⟨t,rfl⟩:=rx;rfl)
theorem jL:OpR X (compareOp .IsNot) (fun x y H Q=>y=.non∧Q (.bl (!decide (x=.non))) H):=by
 intro pins s σ H x y v u Q I rx ry h
 obtain ⟨rfl,q⟩:=h
 cases ry
 refine isnot_none_gen (zS I q ?_)
 cases x <;> first
  | (cases rx;rfl)
  | (obtain ⟨t,rfl⟩:=rx;rfl)
theorem zo (b:Expr) {op:CmpOp} (h:autoParam (op≠.In) aR._auto_2) (h2:autoParam (op≠.NotIn) aR._auto_2):behindInMarks op b=false:=by
 have e1:(op == CmpOp.In)=false:=by cases op <;> first | rfl | exact absurd rfl h
 have e2:(op == CmpOp.NotIn)=false:=by cases op <;> first | rfl | exact absurd rfl h2
 cases b <;> simp [behindInMarks,e1,e2]
theorem qg {op:CmpOp} {r:R2} (ho:OpR X (compareOp op) r) (ha:PE X a ta) (hb:PE X b tb) (hm:behindInMarks op b=false):PE X (.Compare a [op] [b] pos) (tOp r ta tb):=by
 intro pins s σ H Q I h
 exact wpAny_Compare1 (binT ha hb I h fun v u s2 x y H2 I2 rx ry q=>ho pins s2 σ H2 x y v u Q I2 rx ry q) hm
def z8Q (t:TE):TT:=fun σ H Q=>t σ H fun x H'=>∃k,x=.bl k∧Q k H'
theorem zl {op:CmpOp} {r:R2} (ho:OpR X (compareOp op) r) (ha:PE X a ta) (hb:PE X b tb) (hm:behindInMarks op b=false):PT X (.Compare a [op] [b] pos) (z8Q (tOp r ta tb)):=by
 intro pins s σ H Q I h
 refine wpAny_isTrue_Compare1 (thn (ha pins s σ H _ I h) fun v s1 ⟨x,H1,I1,r1,q1⟩=>thn (hb pins s1 σ H1 _ I1 q1) fun u s2 ⟨y,H2,I2,r2,q2⟩=>
  thn (ho pins s2 σ H2 x y v u _ I2 r1 r2 q2) fun c s3 ⟨z,H3,I3,r3,k,e,q3⟩=>?_) hm
 subst e
 cases r3
 exact wpAny_truthy_bool ⟨H3,I3,q3⟩
def z7J (r r':R2) (ta tb tc:TE):TE:=fun σ H Q=>ta σ H fun x H1=>tb σ H1 fun y H2=>r x y H2 fun z H3=>∃k,z=.bl k∧
 (if k=true then tc σ H3 fun w' H4=>r' y w' H4 Q else Q (.bl false) H3)
theorem J1 {op op':CmpOp} {r r':R2} (ho:OpR X (compareOp op) r) (ho':OpR X (compareOp op') r') (ha:PE X a ta) (hb:PE X b tb) (hc:PE X c tc)
  (hm:lastMarks [op,op'] [b,c]=false:=by with_unfolding_all rfl):PE X (.Compare a [op,op'] [b,c] pos) (z7J r r' ta tb tc):=by
 intro pins s σ H Q I h
 refine Compare_chain (thn (ha pins s σ H _ I h) fun v s1 ⟨x,H1,I1,r1,q1⟩=>chain_link (thn (hb pins s1 σ H1 _ I1 q1) fun u s2 ⟨y,H2,I2,r2,q2⟩=>
  thn (ho pins s2 σ H2 x y v u _ I2 r1 r2 q2) fun d s3 ⟨z,H3,I3,r3,k,e,q3⟩=>?_)) hm
 subst e
 cases r3
 refine wpAny_truthy_bool ?_
 cases k with
 | false=>exact ite_ff ⟨.bl false,H3,I3,rfl,q3⟩
 | true=>exact ite_tt (chain_last (thn (hc pins s3 σ H3 _ I3 q3) fun w' s4 ⟨z',H4,I4,r4,q4⟩=>ho' pins s4 σ H4 y z' u w' Q I4 r2 r4 q4))
def TruV (K:ky) (x:V) (H:Hp) (k:Bool):Prop:=
 match x with
 | .non=>k=false
 | .bl b=>k=b
 | .int i=>k=(i != 0)
 | .str y=>y.length≤sizeLine∧k=((y.length:Int) != 0)
 | .byt y=>y.size≤sizeLine∧k=((y.size:Int) != 0)
 | .ref p=>(∃xs,SqL K H p xs∧k= !xs.isEmpty)∨(∃xs,SqT K H p xs∧k= !xs.isEmpty)∨∃kvs,H p=some (.dK kvs)∧k= !kvs.isEmpty
 | _=>False
theorem z1O {κ:Type} {kvs:List (κ × V)} {vs:List (κ × Value)} (r:KV kvs vs):(!vs.isEmpty)= !kvs.isEmpty:=by
 cases r <;> rfl
theorem QK {xs:List V} {its:List Value} (r:Vals xs its):(!its.toArray.isEmpty)= !xs.isEmpty:=by
 cases r <;> simp
theorem Qc:(sizeLine:Nat) < 2 ^ 63:=by rw [sizeLine_eq];decide
theorem z7y:TruR X (fun x H Q=>∃k,TruV X.K x H k∧Q k H):=by
 intro pins s σ H x v Q I rx h
 obtain ⟨k,e,q⟩:=h
 have hl:=Qc
 have hs:sizeLine=16777216:=sizeLine_eq
 cases x with
 | non=>
  cases rx
  have e':k=false:=e
  subst e'
  exact truthy_none ⟨H,I,q⟩
 | bl b=>
  cases rx
  have e':k=b:=e
  subst e'
  exact wpAny_truthy_bool ⟨H,I,q⟩
 | int i=>
  obtain ⟨t,rfl⟩:=rx
  have e':k=(i != 0):=e
  subst e'
  exact PySem.P.truthy_int ⟨H,I,q⟩
 | str y=>
  obtain ⟨t,rfl⟩:=rx
  obtain ⟨hy,e'⟩:y.length≤sizeLine∧k=((y.length:Int) != 0):=e
  subst e'
  exact PySem.P.truthy_str (by lia) ⟨H,I.tok _,q⟩
 | byt y=>
  obtain ⟨t,rfl⟩:=rx
  obtain ⟨hy,e'⟩:y.size≤sizeLine∧k=((y.size:Int) != 0):=e
  subst e'
  exact PySem.W.truthy_bytes (by lia) ⟨H,I.tok _,q⟩
 | ref p=>
  cases rx
  have e':(∃xs,SqL X.K H p xs∧k= !xs.isEmpty)∨(∃xs,SqT X.K H p xs∧k= !xs.isEmpty)∨∃kvs,H p=some (.dK kvs)∧k= !kvs.isEmpty:=e
  rcases e' with ⟨xs,hx,e'⟩ | ⟨xs,hx,e'⟩ | ⟨kvs,hx,e'⟩
  ·subst e'
   obtain ⟨its,r,pl,hz⟩:=I.list hx
   have hlen:=r.length
   exact wpAny_truthy_list pl.isList (by simp only [kE];lia) ⟨H,I.tok _,by rw [QK r];exact q⟩
  ·subst e'
   obtain ⟨its,r,pl,hz⟩:=I.tuple hx
   have hlen:=r.length
   exact truthy_tuple pl (by simp only [kE];lia) ⟨H,I.tok _,by rw [QK r];exact q⟩
  ·subst e'
   obtain ⟨hz,hS,vs,r,m⟩:kvs.length≤sizeLine∧(p == sysModules)=false∧∃vs,KV kvs vs∧s.heap.DictOf (zP X.prog X.w) p vs:=I.hok p _ hx
   have hlen:kvs.length=vs.length:=Paired.length r
   exact wpAny_truthy_dict hS m (by lia) ⟨H,I.tok _,by rw [z1O r];exact q⟩
 | _=>exact (show False from e).elim
theorem jZ (ha:PE X a ta) (he:∀whole,isTrue a X.env whole=(do let v ←whole;standAt a.pos;holding [v] (truthy v))):
  PT X a (fun σ H Q=>ta σ H fun x H'=>∃k,TruV X.K x H' k∧Q k H'):=by
 intro pins s σ H Q I h
 exact isTrue_plain (thn (ha pins s σ H _ I h) fun v s1 ⟨x,H1,I1,r1,q1⟩=>z7y pins s1 σ H1 x v Q I1 r1 q1) (he _)
theorem QR {x:V} {us:List Value} (r:Vals [x] us):∃u,us=[u]∧RelV x u:=by
 cases r with
 | cons r1 r2=>cases r2;exact ⟨_,rfl,r1⟩
theorem z6d {x y:V} {us:List Value} (r:Vals [x,y] us):∃u w',us=[u,w']∧RelV x u∧RelV y w':=by
 cases r with
 | cons r1 r2=>
  cases r2 with
  | cons r3 r4=>cases r4;exact ⟨_,_,rfl,r1,r3⟩
theorem z5n:Zj X (.builtin "abs") (fun xs H Q=>∃i,xs=[.int i]∧Q (.int (if i < 0 then -i else i)) H):=by
 intro pins s σ H xs us Q I r h
 obtain ⟨i,rfl,q⟩:=h
 obtain ⟨u,rfl,t,rfl⟩:=QR r
 exact call_abs_int fun u tk=>⟨.int (if i < 0 then -i else i),H,I.tok _,⟨_,rfl⟩,q⟩
theorem z46 (hc:X.calm=true):Zj X (.builtin "max") (fun xs H Q=>∃i j,xs=[.int i,.int j]∧Q (.int (if j > i then j else i)) H):=by
 intro pins s σ H xs us Q I r h
 obtain ⟨i,j,rfl,q⟩:=h
 obtain ⟨u,w',rfl,⟨t,rfl⟩,⟨t',rfl⟩⟩:=z6d r
 refine max_two_ints (I.ok.hd hc) fun h' tk k=>⟨_,H,I.kept k,?_,q⟩
 by_cases hj:j > i
 ·rw [kA hj,kA hj];exact ⟨_,rfl⟩
 ·rw [kz hj,kz hj];exact ⟨_,rfl⟩
theorem z45 (hc:X.calm=true):Zj X (.builtin "min") (fun xs H Q=>∃i j,xs=[.int i,.int j]∧Q (.int (if j < i then j else i)) H):=by
 intro pins s σ H xs us Q I r h
 obtain ⟨i,j,rfl,q⟩:=h
 obtain ⟨u,w',rfl,⟨t,rfl⟩,⟨t',rfl⟩⟩:=z6d r
 refine min_two_ints (I.ok.hd hc) fun h' tk k=>⟨_,H,I.kept k,?_,q⟩
 by_cases hj:j < i
 ·rw [kA hj,kA hj];exact ⟨_,rfl⟩
 ·rw [kz hj,kz hj];exact ⟨_,rfl⟩
end
end L2
namespace L2
open PySem PySem.Spec PyProof.Rows
structure ObjM (h:Heap) (x dx C:Addr) (mA:Str→Option Value):Prop where
 obj:h.get? x=some (PySem.W.instObj C dx)
 ns:h.Ns1 dx mA
 ne:dx≠x
theorem z3h {h:Heap} {dx:Addr} {mA:Str→Option Value} (n:h.Ns1 dx mA):∃od,h.get? dx=some od∧∀name,PySem.W.lookIn name od=some (mA name):=by
 obtain ⟨o,es,ep,ho,hd,hk,_,hm⟩:=n
 refine ⟨o,ho,fun name=>?_⟩
 have e:=hm name
 unfold nsFind findBy at e
 rw [←Array.find?_toList] at e
 unfold PySem.W.lookIn
 rw [hd]
 dsimp only
 split
 ·rename_i y q
  rw [q] at e
  exact congrArg some e
 ·rename_i q
  rw [q] at e
  have a:es.toList.any (·.refKey)=false:=by
   rw [List.any_eq_false]
   intro y hy
   obtain ⟨z,t,hkey⟩:=hk y (Array.mem_toList_iff.mp hy)
   simp [DictEntry.refKey,hkey]
  have a':¬es.toList.any (·.refKey)=true:=by rw [a];exact ka
  rw [kz a']
  exact congrArg some e
theorem ObjM.look {h:Heap} {x dx C:Addr} {mA:Str→Option Value} (I:ObjM h x dx C mA):∃od,PySem.W.InstAt h x (PySem.W.instObj C dx) C (some od)∧∀name,PySem.W.lookIn name od=some (mA name):=
 let ⟨od,ho,hl⟩:=z3h I.ns
 ⟨od,⟨I.obj,rfl,rfl,ho⟩,hl⟩
section
variable {prog:Program} {w:World} {A:Around} {E:Value→Shared→Prop} {s:Shared} {K:ky} {x dx C f:Addr} {mA:Str→Option Value} {name:Str} {v:Value}
theorem z6T {expr:Bool} {Q:Value→Shared→Prop} (X:K.In s.heap) (I:ObjM s.heap x dx C mA) (hg:PySem.W.plainGet K C name=true) (hh:PySem.W.hasDictIn K C=true)
  (ha:PySem.W.findIn K (.ref C) name=some none) (hv:mA name=some v) (hv':PySem.W.handedIn v=true) (h:Q v { s with toks:=s.toks+1 }):
  wpAny (model prog w) A (getAttr (.ref x) name expr) Q E s:=by
 obtain ⟨od,J,hl⟩:=I.look
 exact PySem.W.get_value X J (PySem.W.plainGet_of hg).1 (PySem.W.findObj_own hh ha rfl (by rw [hl,hv])) hv' h
theorem z4O {pl:Sem Bool} {Q:Value × List Value→Shared→Prop} (X:K.In s.heap) (I:ObjM s.heap x dx C mA) (hg:PySem.W.plainGet K C name=true)
  (hf:PySem.W.findIn K (.ref C) name=some (some (.ref f))) (ht:PySem.W.isFn K (.ref f)=true) (hv:mA name=none) (h:Q (.ref f,[.ref x]) s):
  wpAny (model prog w) A (getMethod (.ref x) name pl) Q E s:=by
 obtain ⟨od,J,hl⟩:=I.look
 exact PySem.W.method_fn X J (PySem.W.plainGet_of hg).1 (PySem.W.plainGet_of hg).2 hf (beq_iff_eq.mp ht) (by show (PySem.W.lookIn name od).map (·.isSome)=some false;rw [hl,hv];rfl) h
theorem z6t {ns:List Str} {Q:Unit→Shared→Prop} (X:K.In s.heap) (I:ObjM s.heap x dx C mA)
  (hs:PySem.W.findIn K (.ref C) "__setattr__"=some (some (.builtin "object.__setattr__"))) (hp:PySem.W.plainOver K C=true) (ht:PySem.W.takerIn K C name=some none) (hh:PySem.W.hasDictIn K C=true)
  (hw:PySem.Within mA ns) (hsz:ns.length≤sizeLine)
  (h:∀h',ObjM h' x dx C (fun y=>if y=name then some v else mA y)→Heap.SameBut dx s.heap h'→Q () { s with heap:=h',toks:=s.toks+2 }):
  wpAny (model prog w) A (setAttr (.ref x) name v) Q E s:=by
 obtain ⟨od,J,hl⟩:=I.look
 refine PySem.W.set_plain X J hs (PySem.W.osa_open (s:={ s with toks:=s.toks+1 }) (r:=none) X J hp ht fun b=>?_)
 obtain ⟨cd,hc,hd'⟩:=PySem.W.any_some hh
 have hx:s.heap.get? x=some ⟨.ref C,some dx,.plain,#[]⟩:=I.obj
 refine wpAny_bind (wpAny_pure (wpAny_bind (wpAny_bind (wpAny_loadPart hx (wpAny_bind (PySem.W.Looks.here (s:={ s with toks:=s.toks+1 }) (PySem.W.looks_clsIn X hc) ?_))))))
 rw [hd']
 refine wpAny_pure (a:=some dx) (wpAny_bind (wpAny_pure (wpAny_bind ?_)))
 refine wpAny_nsSet1 (s:={ s with toks:=s.toks+1 }) I.ns fun h' hn2 hs2=>?_
 obtain ⟨oD,esD,epD,hoD,hdD,hcD⟩:=hn2.count (PySem.Within.cons name v hw)
 refine wpAny_bind (wpAny_lookBehind hoD (by rw [hdD];exact pastItsLine_dict (ku hcD (by rw [kO];lia))) ?_)
 exact wpAny_pure (h _ ⟨(hs2.2 _ (Ne.symm I.ne)).trans I.obj,hn2,I.ne⟩ hs2)
theorem z4F {R:Result→Shared→Prop} {vs:List Value} {kw:List (Str × Value)} (X:K.In s.heap) (hm:PySem.W.makesIn K C=true)
  (hi:PySem.W.findIn K (.ref C) "__init__"=some (some (.ref f))) (hf:PySem.W.typeIn K (.ref f)=some (.type "function"))
  (h:codeAny (model prog w) (A.under (.builtin "type.__call__" ⟨.ref C :: vs,kw⟩)) (.call (.ref f) ⟨.ref (s.heap.objs.size+1) :: vs,kw⟩) (PySem.W.InitBack (s.heap.objs.size+1) R)
   { s with heap:=(s.heap.push PySem.W.emptyDict).push (PySem.W.instObj C s.heap.objs.size) }):
  codeAny (model prog w) A (.call (.ref C) ⟨vs,kw⟩) R s:=by
 obtain ⟨hh,g,d,t,os⟩:=s
 exact PySem.W.make_core (PySem.W.makes_of X hm) (PySem.W.looks_findIn X hi) (fun self=>PySem.W.bind_fn X self hf) (.inl rfl) h
end
noncomputable def putF (f:Str) (v:V):List (Str × V)→List (Str × V)
 | []=>[(f,v)]
 | (g,x) :: r=>if g=f then (g,v) :: r else (g,x) :: putF f v r
theorem Qb (f g:Str) (v:V):∀fs:List (Str × V),(putF f v fs).lookup g=if g=f then some v else fs.lookup g
 | []=>by
  show List.lookup g [(f,v)]=_
  by_cases h:g=f
  ·have hb:(g == f)=true:=beq_iff_eq.mpr h
   simp only [List.lookup,hb,kA h]
  ·have hb:(g == f)=false:=beq_eq_false_iff_ne.mpr h
   simp only [List.lookup,hb,kz h]
 | (k,x) :: r=>by
  have ih:=Qb f g v r
  rw [show putF f v ((k,x) :: r)=(if k=f then (k,v) :: r else (k,x) :: putF f v r) from rfl]
  by_cases hk:k=f
  ·rw [kA hk]
   by_cases h:g=k
   ·have hb:(g == k)=true:=beq_iff_eq.mpr h
    simp only [List.lookup,hb,kA (h.trans hk)]
   ·have hb:(g == k)=false:=beq_eq_false_iff_ne.mpr h
    simp only [List.lookup,hb,kz (fun e:g=f=>h (e.trans hk.symm))]
  ·rw [kz hk]
   by_cases h:g=k
   ·have hb:(g == k)=true:=beq_iff_eq.mpr h
    simp only [List.lookup,hb,kz (fun e:g=f=>hk (h.symm.trans e))]
   ·have hb:(g == k)=false:=beq_eq_false_iff_ne.mpr h
    simp only [List.lookup,hb]
    exact ih
theorem Qe (f:Str) (v:V):∀fs:List (Str × V),f∈(putF f v fs).map (·.1)∧∀g,g∈fs.map (·.1)→g∈(putF f v fs).map (·.1)
 | []=>⟨by simp [putF],fun g h=>by simp at h⟩
 | (k,x) :: r=>by
  obtain ⟨i1,i2⟩:=Qe f v r
  rw [show putF f v ((k,x) :: r)=(if k=f then (k,v) :: r else (k,x) :: putF f v r) from rfl]
  by_cases hk:k=f
  ·rw [kA hk]
   subst hk
   exact ⟨by simp,fun g h=>by simpa using h⟩
  ·rw [kz hk]
   refine ⟨?_,fun g h=>?_⟩
   ·rw [kS]
    exact kQ _ i1
   ·rw [kS] at h ⊢
    rcases kD.mp h with e | e
    ·exact kD.mpr (.inl e)
    ·exact kQ _ (i2 g e)
theorem Qd (f:Str) (v:V):∀fs:List (Str × V),(putF f v fs).length≤fs.length+1
 | []=>by simp [putF]
 | (k,x) :: r=>by
  have ih:=Qd f v r
  rw [show putF f v ((k,x) :: r)=(if k=f then (k,v) :: r else (k,x) :: putF f v r) from rfl]
  by_cases hk:k=f
  ·rw [kA hk,kO,kO];lia
  ·rw [kz hk,kO,kO];lia
theorem RelO.some_of {v:V} {o:Option Value} (r:RelO (some v) o):∃u,o=some u∧RelV v u:=by
 cases o with
 | none=>exact (show False from r).elim
 | some u=>exact ⟨u,rfl,r⟩
theorem RelO.none_of {o:Option Value} (r:RelO none o):o=none:=by
 cases o with
 | none=>rfl
 | some u=>exact (show False from r).elim
theorem z3w {v:V} {u:Value} (r:RelV v u):PySem.W.handedIn u=true:=by
 cases v with
 | non=>cases (show u=Value.none from r);rfl
 | bl b=>cases (show u=Value.bool b from r);rfl
 | int i=>obtain ⟨t,e⟩:=(show ∃t,u=Value.int i t from r);cases e;rfl
 | str x=>obtain ⟨t,e⟩:=(show ∃t,u=Value.str x t from r);cases e;rfl
 | byt b=>obtain ⟨t,e⟩:=(show ∃t,u=Value.bytes b t from r);cases e;rfl
 | flt b=>obtain ⟨t,e⟩:=(show ∃t,u=Value.float b t from r);cases e;rfl
 | ref a=>cases (show u=Value.ref a from r);rfl
 | ty n=>cases (show u=Value.type n from r);rfl
section
variable {P:Program} {w:World} {H H':Hp} {h h':Heap} {a C dx:Addr} {fs fs':List (Str × V)}
theorem Ja (hok:HOk P w H h) (e:H a=some (.ins C dx fs)):∃mA,ObjM h a dx C mA∧(∀f,RelO (fs.lookup f) (mA f))∧PySem.Within mA (fs.map (·.1))∧fs.length≤1000∧H dx=some (.own a):=by
 obtain ⟨d,z,ne,ob,mA,n,r,q⟩:=(show qe P w H h a (.ins C dx fs) from hok a _ e)
 exact ⟨mA,⟨ob,n,ne⟩,r,q,z,d⟩
end
structure Cls (K:ky) (C:Addr):Prop where
 pg:PySem.W.plainGet K C Str.empty=true
 hd:PySem.W.hasDictIn K C=true
 po:PySem.W.plainOver K C=true
 sa:PySem.W.findIn K (.ref C) "__setattr__"=some (some (.builtin "object.__setattr__"))
theorem Cls.get {K:ky} {C:Addr} (c:Cls K C) (f:Str):PySem.W.plainGet K C f=true:=c.pg
def qQ (K:ky) (C:Addr) (f:Str):Prop:=PySem.W.findIn K (.ref C) f=some none
theorem qQ.taker {K:ky} {C:Addr} {f:Str} (n:qQ K C f):PySem.W.takerIn K C f=some none:=by
 unfold PySem.W.takerIn
 rw [show PySem.W.findIn K (.ref C) f=some none from n]
 rfl
structure Meth (K:ky) (C:Addr) (m:Str) (f:Addr):Prop where
 at_:PySem.W.findIn K (.ref C) m=some (some (.ref f))
 fn:PySem.W.isFn K (.ref f)=true
 kp:PySem.W.keepIn K (.ref f)=true
section
variable {X:Cx} {pins:List (Addr × Obj)} {σ:St} {H:Hp} {s:Shared} {a C dx:Addr} {fs:List (Str × V)} {f:Str} {v:V} {A:Around} {E:Value→Shared→Prop}
theorem z1S {b:Bool} {Q:Value→Shared→Prop} (I:Inv X pins σ H s) (e:H a=some (.ins C dx fs)) (c:Cls X.K C) (n:qQ X.K C f) (l:fs.lookup f=some v)
  (h:∀u s',Inv X pins σ H s'→RelV v u→Q u s'):wpAny (model X.prog X.w) A (getAttr (.ref a) f b) Q E s:=by
 obtain ⟨mA,O,r,_,_,_⟩:=Ja I.hok e
 obtain ⟨u,hu,ru⟩:=RelO.some_of (v:=v) (o:=mA f) (by rw [←l];exact r f)
 exact z6T I.kIn O (c.get f) c.hd n hu (z3w ru) (h u _ (I.tok _) ru)
theorem QM {m:Str} {g:Addr} {pl:Sem Bool} {Q:Value × List Value→Shared→Prop} (I:Inv X pins σ H s) (e:H a=some (.ins C dx fs)) (c:Cls X.K C) (k:Meth X.K C m g) (l:fs.lookup m=none)
  (h:Q (.ref g,[.ref a]) s):wpAny (model X.prog X.w) A (getMethod (.ref a) m pl) Q E s:=by
 obtain ⟨mA,O,r,_,_,_⟩:=Ja I.hok e
 have hn:mA m=none:=RelO.none_of (by rw [←l];exact r m)
 exact z4O I.kIn O (c.get m) k.at_ k.fn hn h
theorem z1w {y:V} {u:Value} {Q:Unit→Shared→Prop} (I:Inv X pins σ H s) (e:H a=some (.ins C dx fs)) (c:Cls X.K C) (n:qQ X.K C f) (hl:fs.length < 1000) (ry:RelV y u)
  (h:∀s',Inv X pins σ (upd H a (.ins C dx (putF f y fs))) s'→Q () s'):wpAny (model X.prog X.w) A (setAttr (.ref a) f u) Q E s:=by
 obtain ⟨mA,O,r,wi,_,ho⟩:=Ja I.hok e
 have hz:(fs.map (·.1)).length≤sizeLine:=by rw [kj,sizeLine_eq];lia
 refine z6t I.kIn O c.sa c.po n.taker c.hd wi hz fun h' O' sb=>h _ ?_
 have hd:∃o,h'.get? dx=some o:=let ⟨o,_,_,e',_⟩:=O'.ns;⟨o,e'⟩
 refine I.write (x:=a) (e:=dx) (by rw [e];exact True.intro) (.inr ho) (fun b q hb z=>(sb.2 b hb).trans z) hd ?_
 refine ⟨by rw [zd O.ne];exact ho,?_,O.ne,O'.obj,_,O'.ns,fun g=>?_,fun g hg=>?_⟩
 ·have:=Qd f y fs;lia
 ·show RelO ((putF f y fs).lookup g) (if g=f then some u else mA g)
  rw [Qb]
  by_cases q:g=f
  ·rw [kA q,kA q];exact ry
  ·rw [kz q,kz q];exact r g
 ·by_cases q:g=f
  ·rw [q];exact (Qe f y fs).1
  ·refine (Qe f y fs).2 g (wi g fun z=>hg ?_)
   show (if g=f then some u else mA g)=none
   rw [kz q];exact z
theorem Inv.made (I:Inv X pins σ H s):Inv X pins σ (upd (upd H s.heap.objs.size (.own (s.heap.objs.size+1))) (s.heap.objs.size+1) (.ins C s.heap.objs.size []))
  { s with heap:=(s.heap.push PySem.W.emptyDict).push (PySem.W.instObj C s.heap.objs.size) }:=by
 have e1:(s.heap.push PySem.W.emptyDict).get? s.heap.objs.size=some PySem.W.emptyDict:=Heap.get?_push_size s.heap rfl
 have e2:((s.heap.push PySem.W.emptyDict).push (PySem.W.instObj C s.heap.objs.size)).get? (s.heap.objs.size+1)=some (PySem.W.instObj C s.heap.objs.size):=by
  have:=Heap.get?_push_size (s.heap.push PySem.W.emptyDict) (o:=PySem.W.instObj C s.heap.objs.size) rfl
  rwa [Heap.size_push] at this
 have e3:(s.heap.push PySem.W.emptyDict).Ns s.heap.objs.size (fun _=>none):=⟨PySem.W.emptyDict,#[],_,e1,rfl,(fun e he=>absurd he (by simp)),fun _=>rfl⟩
 have I1:=I.laid (a:=s.heap.objs.size) (o:=.own (s.heap.objs.size+1)) (h':=s.heap.push PySem.W.emptyDict) (t':=s.toks) (fun b u q=>Heap.get?_push_of_some _ q) (ke _) ⟨_,e1⟩
 refine I1.laid (a:=s.heap.objs.size+1) (o:=.ins C s.heap.objs.size []) (t':=s.toks) (fun b u q=>Heap.get?_push_of_some _ q) (kX (Heap.size_push _ _)) ?_
 have ne:s.heap.objs.size≠s.heap.objs.size+1:=Nat.ne_of_lt (ya _)
 refine ⟨by rw [zd ne,z6],Nat.zero_le _,ne,e2,fun _=>none,(Heap.Ns1.of_empty e3).at fun o q=>Heap.get?_push_of_some _ q,fun _=>True.intro,fun y hy=>absurd rfl hy⟩
theorem z7r {prog:Program} {w:World} {env:Env} {e:Expr} {f:Str} {pos:Pos} {s:Shared} {Q:Value→Shared→Prop} (hb:attributeBase e f env (eval e env)=eval e env)
  (h:wpAny (model prog w) A (eval e env) (fun o s₁=>wpAny (model prog w) A (getAttr o f true) Q E s₁) E s):wpAny (model prog w) A (eval (.Attribute e f pos) env) Q E s:=
 Attribute_any_ h (by rw [arm_eval_Attribute,hb])
end
def tFld (K:ky) (ta:TE) (f:Str):TE:=fun σ H Q=>ta σ H fun x H1=>∃a C dx fs v,x=.ref a∧H1 a=some (.ins C dx fs)∧Cls K C∧qQ K C f∧fs.lookup f=some v∧Q v H1
def sFld (K:ky) (ta tv:TE) (f:Str):TS:=fun D σ H=>tv σ H fun y H1=>ta σ H1 fun x H2=>∃a C dx fs,x=.ref a∧H2 a=some (.ins C dx fs)∧Cls K C∧qQ K C f∧fs.length < 1000∧
 D.nx σ (upd H2 a (.ins C dx (putF f y fs)))
section
variable {X:Cx} {o e value:Expr} {f:Str} {pos pos' tpos:Pos} {ta tv:TE}
theorem zB (he:PE X e ta) (hb:attributeBase e f X.env (eval e X.env)=eval e X.env):PE X (.Attribute e f pos) (tFld X.K ta f):=by
 intro pins s σ H Q I h
 refine z7r hb (thn (he pins s σ H _ I h) fun u s1 zz=>?_)
 obtain ⟨x,H1,I1,rx,a,C,dx,fs,v,ex,ea,c,n,l,q⟩:=zz
 subst ex
 obtain rfl:u=Value.ref a:=rx
 exact z1S I1 ea c n l fun u' s2 I2 ru=>⟨v,H1,I2,ru,q⟩
theorem qM (ha:PE X o ta) (hv:PE X value tv) (hs:swapsWith value (some (.Attribute o f pos')) pos.line X.env=pure false):PS X (.Assign [.Attribute o f pos'] value pos) (sFld X.K ta tv f):=by
 intro pins s σ H D I h
 refine plainObj_wpAny_Assign_Attribute (thn (hv pins s σ H _ I h) fun u s1 ⟨y,H1,I1,ry,q⟩=>thn (ha pins s1 σ H1 _ I1 q) fun ov s2 ⟨x,H2,I2,rx,a,C,dx,fs,ex,ea,c,n,l,q2⟩=>?_) hs
 subst ex
 obtain rfl:ov=Value.ref a:=rx
 exact z1w I2 ea c n l ry fun s3 I3=>⟨σ,_,I3,q2⟩
end
section
variable {X:Cx} {pins:List (Addr × Obj)} {σ:St} {H:Hp} {s:Shared} {A:Around} {E:Value→Shared→Prop} {Q:Value→Shared→Prop} {c:Value} {b:Bool}
inductive TyOf (K:ky) (H:Hp):V→Value→Prop where
 | non:TyOf K H .non (.type "NoneType")
 | bl (x:Bool):TyOf K H (.bl x) (.type "bool")
 | int (i:Int):TyOf K H (.int i) (.type "int")
 | str (x:Str):TyOf K H (.str x) (.type "str")
 | flt (x:UInt64):TyOf K H (.flt x) (.type "float")
 | lst {a:Addr} {xs:List V} (e:H a=some (.lst xs)):TyOf K H (.ref a) (.type "list")
 | frz {a:Addr} {o:Obj} {xs:List V} (e:H a=some (.frz o (.lst xs))):TyOf K H (.ref a) (.type "list")
 | tup {a:Addr} {xs:List V} (e:H a=some (.tup xs)):TyOf K H (.ref a) (.type "tuple")
 | dK {a:Addr} {kvs:List (Key × V)} (e:H a=some (.dK kvs)):TyOf K H (.ref a) (.type "dict")
 | dT {a:Addr} {kvs:List (List Key × V)} (e:H a=some (.dT kvs)):TyOf K H (.ref a) (.type "dict")
 | ins {a C dx:Addr} {fs:List (Str × V)} (e:H a=some (.ins C dx fs)) (cl:Cls K C) (ha:PySem.W.findIn K (.ref C) "__class__"=some (some (.builtin "object.__class__")))
   (hn:PySem.W.specialIn K (.builtin "object.__class__") "__get__"=some (some (.builtin "getset_descriptor.__get__"))) (htk:PySem.W.takesIn K (.builtin "object.__class__")=some true)
   (hm:PySem.W.mroIn K C (.type "object")=some true):TyOf K H (.ref a) (.ref C)
theorem z3r {x:V} {u t:Value} (I:Inv X pins σ H s) (rx:RelV x u) (ty:TyOf X.K H x t) (e:PySem.W.kitOne X.K t c=some b) (h:∀tk,Q (.bool b) { s with toks:=tk }):
  wpAny (model X.prog X.w) A (call (.builtin "isinstance") [u,c]) Q E s:=by
 cases ty with
 | non=>cases (show u=Value.none from rx);exact PySem.W.kia_one PySem.W.kitx_none I.kIn True.intro e (fun z=>nomatch z) h
 | bl y=>cases (show u=Value.bool y from rx);exact PySem.W.kia_one PySem.W.kitx_bool I.kIn True.intro e (fun z=>nomatch z) h
 | int i=>obtain ⟨t,q⟩:=(show ∃t,u=Value.int i t from rx);cases q;exact PySem.W.kia_one PySem.W.kitx_int I.kIn True.intro e (fun z=>nomatch z) h
 | str y=>obtain ⟨t,q⟩:=(show ∃t,u=Value.str y t from rx);cases q;exact PySem.W.kia_one PySem.W.kitx_str I.kIn True.intro e (fun z=>nomatch z) h
 | flt y=>obtain ⟨t,q⟩:=(show ∃t,u=Value.float y t from rx);cases q;exact PySem.W.kia_one PySem.W.kitx_float I.kIn True.intro e (fun z=>nomatch z) h
 | @lst a xs ea=>
  cases (show u=Value.ref a from rx)
  obtain ⟨_,_,n,_,h1⟩:=(show qe X.prog X.w H s.heap a (.lst xs) from I.hok a _ ea)
  exact PySem.W.kia_one PySem.W.kitx_list I.kIn ⟨_,h1,rfl⟩ e (fun z=>nomatch z) h
 | @frz a ob xs ea=>
  cases (show u=Value.ref a from rx)
  obtain ⟨_,_,_,n,_,h1⟩:=(show qe X.prog X.w H s.heap a (.frz ob (.lst xs)) from I.hok a _ ea)
  exact PySem.W.kia_one PySem.W.kitx_list I.kIn ⟨_,h1,rfl⟩ e (fun z=>nomatch z) h
 | @tup a xs ea=>
  cases (show u=Value.ref a from rx)
  obtain ⟨_,_,_,p⟩:=(show qe X.prog X.w H s.heap a (.tup xs) from I.hok a _ ea)
  obtain ⟨o,h1,h2,_⟩:=p
  exact PySem.W.kia_one PySem.W.kitx_tuple I.kIn ⟨o,h1,h2⟩ e (fun z=>nomatch z) h
 | @dK a kvs ea=>
  cases (show u=Value.ref a from rx)
  obtain ⟨_,_,vs,_,p⟩:=(show qe X.prog X.w H s.heap a (.dK kvs) from I.hok a _ ea)
  obtain ⟨o,es,ep,h1,h2,_⟩:=p
  exact PySem.W.kia_one PySem.W.kitx_dict I.kIn ⟨o,h1,h2.1⟩ e (fun z=>nomatch z) h
 | @dT a kvs ea=>
  cases (show u=Value.ref a from rx)
  obtain ⟨_,_,xs,_,o,es,ep,h1,h2,_⟩:=(show qe X.prog X.w H s.heap a (.dT kvs) from I.hok a _ ea)
  exact PySem.W.kia_one PySem.W.kitx_dict I.kIn ⟨o,h1,h2.1⟩ e (fun z=>nomatch z) h
 | @ins a C dx fs ea cl ha hn htk hm=>
  cases (show u=Value.ref a from rx)
  obtain ⟨mA,O,_⟩:=Ja I.hok ea
  obtain ⟨od,J,_⟩:=O.look
  exact PySem.W.kia_one (PySem.W.kitx_own (cl.get _) cl.hd ha hn htk hm) I.kIn J e (fun z=>nomatch z) h
end
end L2
namespace L2
open PySem PySem.Spec PyProof.Rows
structure Room (k:Nat) (A:Around):Prop where
 hd:A.handled=none
 dp:A.depth+3 * k+5 < recursionLimit
 un:A.units+16 * k+200 < cLine
 gd:A.guards=some []
theorem Room.mono {j k:Nat} {A:Around} (r:Room k A) (h:j≤k):Room j A:=⟨r.hd,by have:=r.dp;lia,by have:=r.un;lia,r.gd⟩
theorem Room.deeper {k:Nat} {A:Around} (r:Room (k+1) A) (env:Env):Room k (A.deeper env):=
 ⟨r.hd,by have:=r.dp;show A.depth+1+3 * k+5 < _;lia,by have:=r.un;show A.units+3+16 * k+200 < _;lia,r.gd⟩
theorem Room.in1 {k:Nat} {A:Around} (r:Room (k+1) A):Room k A.in1:=
 ⟨r.hd,by have:=r.dp;show A.depth+3 * k+5 < _;lia,by have:=r.un;show A.units+1+16 * k+200 < _;lia,r.gd⟩
theorem z1J {A:Around} {C:Addr} {us:List Value} {kw:List (Str × Value)}:(A.under (.builtin "type.__call__" ⟨.ref C :: us,kw⟩)).depth=A.depth+1:=by
 first | rfl | simp [Around.under,Code.weight,Code.isCreation,Code.isGuard,Code.isCaller,Code.frames,Code.isFrame,guardIds]
theorem z1I {A:Around} {C:Addr} {us:List Value} {kw:List (Str × Value)}:(A.under (.builtin "type.__call__" ⟨.ref C :: us,kw⟩)).units=A.units+1:=by
 first | rfl | simp [Around.under,Code.cUnits,Code.frames,Code.isFrame]
theorem z0v {A:Around} {C:Addr} {us:List Value} {kw:List (Str × Value)}:(A.under (.builtin "type.__call__" ⟨.ref C :: us,kw⟩)).guards=A.guards:=by
 first | rfl | simp [Around.under,Code.isGuard,guardIds,pushGuard]
theorem Room.make {k:Nat} {A:Around} (r:Room (k+1) A) (C:Addr) (us:List Value) (kw:List (Str × Value)):Room k (A.under (.builtin "type.__call__" ⟨.ref C :: us,kw⟩)):=
 ⟨r.hd,by have:=r.dp;rw [z1J];lia,by have:=r.un;rw [z1I];lia,by rw [z0v];exact r.gd⟩
theorem Room.depth {k:Nat} {A:Around} (r:Room k A):A.depth < recursionLimit:=by have:=r.dp;lia
theorem Room.units {k:Nat} {A:Around} (r:Room k A):A.units+64 < cLine:=by have:=r.un;lia
theorem Room.units0 {k:Nat} {A:Around} (r:Room k A):A.units < cLine:=by have:=r.un;lia
abbrev tNil:TA:=fun _ H Q=>Q [] H
abbrev z0d (ta:TE) (tr:TA):TA:=fun σ H Q=>ta σ H fun x H1=>tr σ H1 fun xs H2=>Q (x :: xs) H2
section
variable {X:Cx} {e:Expr} {es:List Expr} {te:TE} {t:TA} {pos:Pos}
theorem z8:PA X [] tNil:=fun _ _ _ _ H Q I h=>Calls.spliced_nil ⟨[],H,I,.nil,h⟩
theorem z0 (ha:PE X e te) (hr:PA X es t) (hs:autoParam (starEach (e :: es) X.env=(false,eval e X.env) :: starEach es X.env) aR._auto_1):PA X (e :: es) (z0d te t):=by
 intro pos pins s σ H Q I h
 rw [hs]
 show wpAny _ _ (spliced ((false,eval e X.env) :: backTo pos (starEach es X.env))) _ _ s
 refine Calls.spliced_cons (thn (ha pins s σ H _ I h) fun u s1 zz=>?_)
 obtain ⟨x,H1,I1,r1,q1⟩:=zz
 exact thn (hr pos pins s1 σ H1 _ I1 q1) fun us s2 ⟨xs,H2,I2,r2,q2⟩=>⟨x :: xs,H2,I2,.cons r1 r2,q2⟩
def tTup (t:TA):TE:=fun σ H Q=>t σ H fun xs H1=>xs.length≤sizeLine∧∀p,H1 p=none→Q (.ref p) (upd H1 p (.tup xs))
def tLst (t:TA):TE:=fun σ H Q=>t σ H fun xs H1=>xs.length≤sizeLine∧∀p,H1 p=none→Q (.ref p) (upd H1 p (.lst xs))
theorem zI {x1} (h:PA X es t):PE X (.Tuple es x1 pos) (tTup t):=by
 intro pins s σ H Q I hq
 refine wpAny_Tuple_spliced (thn (h pos pins s σ H _ I hq) fun us s1 ⟨xs,H1,I1,r,z,q⟩=>⟨by rw [←r.length];exact z,?_⟩)
 have hf:H1 s1.heap.objs.size=none:=I1.hok.fresh (ke _)
 refine ⟨.ref s1.heap.objs.size,upd H1 s1.heap.objs.size (.tup xs),I1.laid (t':=s1.toks) (fun b u e=>Heap.get?_push_of_some _ e) (ke _) ?_,rfl,q _ hf⟩
 exact ⟨z,us,r,⟨_,Heap.get?_push_size _ rfl,rfl,_,rfl⟩⟩
theorem qv (h:PA X es t):PE X (.List es pos) (tLst t):=by
 intro pins s σ H Q I hq
 refine wpAny_List_spliced (thn (h pos pins s σ H _ I hq) fun us s1 ⟨xs,H1,I1,r,z,q⟩=>⟨by rw [←r.length];exact z,?_⟩)
 have hf:H1 s1.heap.objs.size=none:=I1.hok.fresh (ke _)
 refine ⟨.ref s1.heap.objs.size,upd H1 s1.heap.objs.size (.lst xs),I1.laid (t':=s1.toks) (fun b u e=>Heap.get?_push_of_some _ e) (ke _) ?_,rfl,q _ hf⟩
 exact ⟨z,us,0,r,Heap.get?_push_size _ rfl⟩
end
abbrev Sp:=List V→Hp→VK→XK→Prop
abbrev CXT:=List Env→Hp→Shared→XK→Value→Shared→Prop
structure Env0 (P:Program) (w:World) (K:ky) (mg:Str→Option Value) (base:Heap) (A:Around) (outer:List Env) (s:Shared) (H:Hp):Prop where
 frames:A.frames=some outer
 mod:Mod K mg base
 bs:∀b o,base.get? b=some o→s.heap.get? b=some o∧H b=none
 bsz:base.objs.size≤s.heap.objs.size
 funs:s.heap.FunFrames base outer
 frf:∀b∈frs outer,H b=none
 hok:HOk P w H s.heap
 bare:AllBare s.gens
def CE (outer:List Env) (P:Program) (w:World) (H:Hp) (s:Shared) (Q:VK) (u:Value) (s':Shared):Prop:=
 ∃v H',s'.os=s.os∧AllBare s'.gens∧Un (frs outer) [] H H' s.heap s'.heap∧HOk P w H' s'.heap∧RelV v u∧Q v H'
def CR (CX:CXT) (outer:List Env) (P:Program) (w:World) (H:Hp) (s:Shared) (Q:VK) (E:XK) (r:Result) (s':Shared):Prop:=
 match r with
 | .ok (.ret u)=>CE outer P w H s Q u s'
 | .ok _=>False
 | .error e=>CX outer H s E e s'
structure FnOk (P:Program) (w:World) (K:ky) (mg:Str→Option Value) (base:Heap) (CX:CXT) (k:Nat) (f:Addr) (fd:FuncData) (ps:List Str) (sp:Sp):Prop where
 len:∀vs H Q E,sp vs H Q E→vs.length=ps.length
 run:∀(A:Around) (outer:List Env) (s:Shared) (H:Hp) (args:Args) (us:List Value) (vs:List V) (Q:VK) (E:XK),Room k A→Env0 P w K mg base A outer s H→BindsTo s fd args (ps.zip us)→Vals vs us→sp vs H Q E→
  codeAny (model P w) A (.call (.ref f) args) (CR CX outer P w H s Q E) s
theorem FnOk.mono {P:Program} {w:World} {K:ky} {mg:Str→Option Value} {base:Heap} {CX:CXT} {j k:Nat} {f:Addr} {fd:FuncData} {ps:List Str} {sp:Sp} (F:FnOk P w K mg base CX j f fd ps sp) (h:j≤k):
  FnOk P w K mg base CX k f fd ps sp:=⟨F.len,fun A outer s H args us vs Q E hr=>F.run A outer s H args us vs Q E (hr.mono h)⟩
theorem FnOk.imp {P:Program} {w:World} {K:ky} {mg:Str→Option Value} {base:Heap} {CX:CXT} {k:Nat} {f:Addr} {fd:FuncData} {ps:List Str} {sp sp':Sp} (F:FnOk P w K mg base CX k f fd ps sp)
  (h:∀vs H Q E,sp' vs H Q E→sp vs H Q E):FnOk P w K mg base CX k f fd ps sp':=
 ⟨fun vs H Q E q=>F.len vs H Q E (h _ _ _ _ q),fun A outer s H args us vs Q E hr he hb hv hs=>F.run A outer s H args us vs Q E hr he hb hv (h _ _ _ _ hs)⟩
theorem Env0.make {P:Program} {w:World} {K:ky} {mg:Str→Option Value} {base:Heap} {A:Around} {outer:List Env} {s:Shared} {H:Hp} (e:Env0 P w K mg base A outer s H) (C:Addr) (us:List Value) (kw:List (Str × Value)):
  Env0 P w K mg base (A.under (.builtin "type.__call__" ⟨.ref C :: us,kw⟩)) outer s H:=⟨by first | exact e.frames | (simpa [Around.under,Code.envs,Code.isFrame,pushEnvs] using e.frames),e.mod,e.bs,e.bsz,e.funs,e.frf,e.hok,e.bare⟩
theorem Env0.in1 {P:Program} {w:World} {K:ky} {mg:Str→Option Value} {base:Heap} {A:Around} {outer:List Env} {s:Shared} {H:Hp} (e:Env0 P w K mg base A outer s H):
  Env0 P w K mg base A.in1 outer s H:=⟨e.frames,e.mod,e.bs,e.bsz,e.funs,e.frf,e.hok,e.bare⟩
section
variable {X:Cx} {pins:List (Addr × Obj)} {σ:St} {H:Hp} {s s':Shared}
theorem Inv.env0 (I:Inv X pins σ H s):Env0 X.prog X.w X.K X.mg X.base X.A X.stack s H:=
 ⟨I.ok.frames,I.ok.mod,I.bs,ku I.ok.bsz I.sz,I.stack,I.stkFree,I.hok,I.bare⟩
theorem Inv.after {Q:VK} {u:Value} (I:Inv X pins σ H s) (h:CE X.stack X.prog X.w H s Q u s'):EP X pins σ Q u s':=by
 obtain ⟨v,H',os,bare,un,hok,r,q⟩:=h
 obtain ⟨hh,g,d,t,os'⟩:=s'
 obtain rfl:os'=s.os:=os
 exact ⟨v,H',I.call (h':=hh) (g':=g) (d':=d) (t':=t) (ch:=[]) un hok bare (fun b z=>absurd z (by simp)),r,q⟩
end
abbrev z6i (sp:Sp) (dvs:List V) (E:XK) (t:TA):TE:=fun σ H Q=>t σ H fun vs H1=>sp (vs++dvs) H1 Q E
def z1u (C:Addr) (m:Str) (sp:Sp) (dvs:List V) (E:XK) (ta:TE) (t:TA):TE:=fun σ H Q=>ta σ H fun x H1=>∃a dx fs,x=.ref a∧H1 a=some (.ins C dx fs)∧fs.lookup m=none∧
 t σ H1 fun vs H2=>sp (x :: (vs++dvs)) H2 Q E
def z7D (C:Addr) (sp:Sp) (dvs:List V) (E:XK) (t:TA):TE:=fun σ H Q=>t σ H fun vs H1=>∀x dx,H1 x=none→H1 dx=none→dx≠x→
 sp (.ref x :: (vs++dvs)) (upd (upd H1 dx (.own x)) x (.ins C dx [])) (fun v H2=>v=.non∧Q (.ref x) H2) E
def jE (K:ky) (fd:FuncData) (ps:List Str) (ds:List Value):Prop:=
 ∀(s:Shared) (us:List Value),K.In s.heap→(us++ds).length=ps.length→BindsTo s fd ⟨us,[]⟩ (ps.zip (us++ds))
theorem jE.all {K:ky} {fd:FuncData} {ps:List Str} (h:∀us:List Value,us.length=ps.length→bindArgs fd ⟨us,[]⟩=pure (ps.zip us)):jE K fd ps []:=fun s us _ hl=>by
 rw [kU] at hl ⊢
 exact .of_eq (h us hl)
def Qq (CX:CXT) (X:Cx) (E:XK):Prop:=∀(pins:List (Addr × Obj)) (σ:St) (H:Hp) (s:Shared) (e:Value) (s':Shared),Inv X pins σ H s→CX X.stack H s E e s'→X.xe e s'
section
variable {X:Cx} {CX:CXT} {k:Nat} {f C:Addr} {fd:FuncData} {ps:List Str} {sp:Sp} {dvs:List V} {ds:List Value} {E:XK} {x m:Str} {p pos apos:Pos} {e o:Expr} {es:List Expr} {ta:TE} {t:TA}
theorem z0X {pins:List (Addr × Obj)} {σ:St} {H:Hp} {s:Shared} {Q:VK} {us:List Value} {vs:List V} (F:FnOk X.prog X.w X.K X.mg X.base CX k f fd ps sp) (hr:Room k X.A) (hb:jE X.K fd ps ds) (hd:Vals dvs ds) (hx:Qq CX X E)
  (I:Inv X pins σ H s) (r:Vals vs us) (h:sp (vs++dvs) H Q E):wpAny (model X.prog X.w) X.A (call (.ref f) us) (EP X pins σ Q) X.xe s:=by
 have r2:Vals (vs++dvs) (us++ds):=r.append hd
 have hl:(us++ds).length=ps.length:=by rw [←r2.length];exact F.len _ _ _ _ h
 refine wpAny_call (codeAny_mono (F.run X.A X.stack s H ⟨us,[]⟩ (us++ds) (vs++dvs) Q E hr I.env0 (hb s us I.kIn hl) r2 h) fun r s' hq=>?_)
 cases r with
 | error e=>exact hx pins σ H s e s' I hq
 | ok fl=>
  cases fl with
  | ret u=>exact I.after hq
  | next=>exact False.elim hq
  | brk=>exact False.elim hq
  | cont=>exact False.elim hq
theorem z32 (F:FnOk X.prog X.w X.K X.mg X.base CX k f fd ps sp) (hr:Room k X.A) (hg:Gl X x) (hm:X.mg x=some (.ref f)) (hk:PySem.W.keepIn X.K (.ref f)=true) (hb:jE X.K fd ps ds) (hd:Vals dvs ds) (hx:Qq CX X E)
  (ha:PA X (e :: es) t) (hdb:autoParam ((x == ("__debug__":Str))=false) aR._auto_2) (he:autoParam (starEach (e :: es) X.env=(false,eval e X.env) :: starEach es X.env) aR._auto_1) (hpl:autoParam ((backTo pos (starEach es X.env)).any (·.1)=false) aR._auto_1):
  PE X (.Call (.Name x p) (e :: es) [] pos) (z6i sp dvs E t):=by
 intro pins s σ H Q I h
 refine wpAny_Call_Name_kw (Zs I hg hm ?_ hdb)
 refine PySem.W.callWith_K (h₀:=X.base) I.ok.mod.kin hk (thn (ha pos pins s σ H _ I h) fun us s1 ⟨vs,H1,I1,r,q⟩=>⟨I1.kIn,?_⟩) he hpl
 exact z0X F hr hb hd hx I1 r q
theorem z6B {pl:Sem Bool} (he:PE X o ta) (c:Cls X.K C) (hm:Meth X.K C m f) (F:FnOk X.prog X.w X.K X.mg X.base CX k f fd ps sp) (hr:Room k X.A) (hb:jE X.K fd ps ds) (hd:Vals dvs ds) (hx:Qq CX X E) (ha:PA X (e :: es) t)
  (hst:autoParam (starEach (e :: es) X.env=(false,eval e X.env) :: starEach es X.env) aR._auto_1) (hpl:autoParam ((backTo pos (starEach es X.env)).any (·.1)=false) aR._auto_1)
  (ht:autoParam (eval (.Call (.Attribute o m apos) (e :: es) [] pos) X.env=(do
   let ov ←eval o X.env
   standAt apos.atName
   let (f,first) ←holding [ov] (getMethod ov m pl)
   callWith pos f first (backTo pos (starEach (e :: es) X.env)) (backToKw pos (keywordEach [] X.env)))) aR._auto_1):
  PE X (.Call (.Attribute o m apos) (e :: es) [] pos) (z1u C m sp dvs E ta t):=by
 intro pins s σ H Q I h
 refine PySem.W.methodCall_KW (pl:=pl) (thn (he pins s σ H _ I h) fun u s1 ⟨x,H1,I1,rx,a,dx,fs,ex,ea,l,q⟩=>?_) ht
 subst ex
 obtain rfl:u=Value.ref a:=rx
 refine QM I1 ea c hm l ?_
 refine PySem.W.callWith_K (first:=[.ref a]) (h₀:=X.base) I.ok.mod.kin hm.kp (thn (ha pos pins s1 σ H1 _ I1 q) fun us s2 ⟨vs,H2,I2,r,q2⟩=>⟨I2.kIn,?_⟩) hst hpl
 exact z0X (us:=.ref a :: us) (vs:=.ref a :: vs) F hr hb hd hx I2 (.cons rfl r) q2
theorem z4v {pl:Sem Bool} (he:PE X o ta) (c:Cls X.K C) (hm:Meth X.K C m f) (F:FnOk X.prog X.w X.K X.mg X.base CX k f fd ps sp) (hr:Room k X.A) (hb:jE X.K fd ps ds) (hd:Vals dvs ds) (hx:Qq CX X E)
  (ht:autoParam (eval (.Call (.Attribute o m apos) [] [] pos) X.env=(do
   let ov ←eval o X.env
   standAt apos.atName
   let (f,first) ←holding [ov] (getMethod ov m pl)
   callWith pos f first (backTo pos (starEach [] X.env)) (backToKw pos (keywordEach [] X.env)))) aR._auto_1):
  PE X (.Call (.Attribute o m apos) [] [] pos) (z1u C m sp dvs E ta tNil):=by
 intro pins s σ H Q I h
 refine PySem.W.methodCall_KW (pl:=pl) (thn (he pins s σ H _ I h) fun u s1 ⟨x,H1,I1,rx,a,dx,fs,ex,ea,l,q⟩=>?_) ht
 subst ex
 obtain rfl:u=Value.ref a:=rx
 refine QM I1 ea c hm l ?_
 exact PySem.W.callWith_K0 (first:=[.ref a]) I1.kIn hm.kp (z0X (us:=[.ref a]) (vs:=[.ref a]) F hr hb hd hx I1 (.cons rfl .nil) q)
structure Mk (K:ky) (C f:Addr):Prop where
 makes:PySem.W.makesIn K C=true
 init:PySem.W.findIn K (.ref C) "__init__"=some (some (.ref f))
 fn:PySem.W.isFn K (.ref f)=true
 kp:PySem.W.keepIn K (.ref C)=true
theorem z4m {pins:List (Addr × Obj)} {σ:St} {H:Hp} {s:Shared} {Q:VK} {us:List Value} {vs:List V} (M:Mk X.K C f) (F:FnOk X.prog X.w X.K X.mg X.base CX k f fd ps sp) (hr:Room (k+1) X.A) (hb:jE X.K fd ps ds) (hd:Vals dvs ds)
  (hx:Qq CX X E) (I:Inv X pins σ H s) (r:Vals vs us)
  (h:∀x dx,H x=none→H dx=none→dx≠x→sp (.ref x :: (vs++dvs)) (upd (upd H dx (.own x)) x (.ins C dx [])) (fun v H2=>v=.non∧Q (.ref x) H2) E):
  wpAny (model X.prog X.w) X.A (call (.ref C) us) (EP X pins σ Q) X.xe s:=by
 have hq:=h (s.heap.objs.size+1) s.heap.objs.size (I.hok.fresh (Nat.le_succ _)) (I.hok.fresh (ke _)) (Nat.ne_of_lt (ya _))
 have I2:=Inv.made (C:=C) I
 have r2:Vals (V.ref (s.heap.objs.size+1) :: (vs++dvs)) (Value.ref (s.heap.objs.size+1) :: (us++ds)):=.cons rfl (r.append hd)
 have hl:(Value.ref (s.heap.objs.size+1) :: us++ds).length=ps.length:=by
  have e:=r2.length
  rw [F.len _ _ _ _ hq] at e
  exact e.symm
 refine wpAny_call (z4F (f:=f) I.kIn M.makes M.init (beq_iff_eq.mp M.fn) (codeAny_mono (F.run _ X.stack _ _ ⟨Value.ref (s.heap.objs.size+1) :: us,[]⟩ (Value.ref (s.heap.objs.size+1) :: (us++ds)) _ _ E (hr.make C us [])
  (I2.env0.make C us []) (hb _ (Value.ref (s.heap.objs.size+1) :: us) I2.kIn hl) r2 hq) fun r s' hq'=>?_))
 cases r with
 | error e=>exact hx pins σ _ _ e s' I2 hq'
 | ok fl=>
  cases fl with
  | ret u=>
   obtain ⟨v,H',I3,rv,ev,q3⟩:=I2.after hq'
   subst ev
   exact ⟨rv,⟨V.ref (s.heap.objs.size+1),H',I3,rfl,q3⟩⟩
  | next=>exact False.elim hq'
  | brk=>exact False.elim hq'
  | cont=>exact False.elim hq'
theorem z6C (M:Mk X.K C f) (F:FnOk X.prog X.w X.K X.mg X.base CX k f fd ps sp) (hr:Room (k+1) X.A) (hg:Gl X x) (hm:X.mg x=some (.ref C)) (hb:jE X.K fd ps ds) (hd:Vals dvs ds) (hx:Qq CX X E)
  (ha:PA X (e :: es) t) (hdb:autoParam ((x == ("__debug__":Str))=false) aR._auto_2) (he:autoParam (starEach (e :: es) X.env=(false,eval e X.env) :: starEach es X.env) aR._auto_1) (hpl:autoParam ((backTo pos (starEach es X.env)).any (·.1)=false) aR._auto_1):
  PE X (.Call (.Name x p) (e :: es) [] pos) (z7D C sp dvs E t):=by
 intro pins s σ H Q I h
 refine wpAny_Call_Name_kw (Zs I hg hm ?_ hdb)
 refine PySem.W.callWith_K (h₀:=X.base) I.ok.mod.kin M.kp (thn (ha pos pins s σ H _ I h) fun us s1 ⟨vs,H1,I1,r,q⟩=>⟨I1.kIn,?_⟩) he hpl
 exact z4m M F hr hb hd hx I1 r q
end
section
variable {X:Cx} {CX:CXT} {k:Nat} {f C:Addr} {fd:FuncData} {ps ks:List Str} {sp:Sp} {E:XK} {x m:Str} {p pos apos kpos:Pos} {e o:Expr} {es:List Expr} {kws:List Keyword} {te ta:TE} {t tk:TA} {nm:Option Str}
variable {g:List Value→List Value→List Value} {gV:List V→List V→List V}
end
structure zf (N P:List Str) (sc:Scope):Prop where
 kind:sc.kind=.function
 co:sc.isCoroutine=false
 gen:sc.isGenerator=false
 nd:N.Nodup
 pre:N.take P.length=P
 par:∀x∈P,sc.names.lookup x=some .local∨sc.names.lookup x=some .cell
 nofree:∀y∈sc.names,y.2≠.free
theorem z05 {kindOf:Str→Option NameKind} {x:Str}:∀{binds:List (Str × Value)} {m:Str→Option Value},(∀v,(x,v)∉binds)→bindL kindOf binds m x=m x
 | [],_,_=>rfl
 | (n,v) :: r,m,h=>by
  unfold bindL
  rw [z05 fun w hw=>h w (kQ _ hw)]
  split
  ·have:x≠n:=by rintro rfl;exact h v kP
   simp [this]
  ·rfl
theorem z07 {kindOf:Str→Option NameKind} {x:Str}:∀{binds:List (Str × Value)} {m:Str→Option Value},(∀v,(x,v)∉binds)→bindC kindOf binds m x=m x
 | [],_,_=>rfl
 | (n,v) :: r,m,h=>by
  unfold bindC
  rw [z07 fun w hw=>h w (kQ _ hw)]
  split
  ·rfl
  ·have:x≠n:=by rintro rfl;exact h v kP
   simp [this]
theorem z06 {kindOf:Str→Option NameKind} {x:Str} {v:Value}:∀{P:List Str} {vs:List Value} {i:Nat} {m:Str→Option Value},P.Nodup→P[i]?=some x→vs[i]?=some v→kindOf x=some .local→
  bindL kindOf (P.zip vs) m x=some v
 | [],_,_,_,_,h,_,_=>by simp at h
 | _ :: _,[],_,_,_,_,h,_=>by simp at h
 | p :: P,w :: vs,0,m,nd,h1,h2,hk=>by
  simp at h1 h2;subst h1;subst h2
  show bindL kindOf ((p,w) :: P.zip vs) m p=_
  unfold bindL
  rw [z05 fun v hv=>(List.nodup_cons.mp nd).1 (List.of_mem_zip hv).1,kA hk]
  simp
 | p :: P,w :: vs,i+1,m,nd,h1,h2,hk=>by
  show bindL kindOf ((p,w) :: P.zip vs) m x=_
  unfold bindL
  exact z06 (i:=i) (List.nodup_cons.mp nd).2 (by simpa using h1) (by simpa using h2) hk
theorem z08 {kindOf:Str→Option NameKind} {x:Str} {v:Value}:∀{P:List Str} {vs:List Value} {i:Nat} {m:Str→Option Value},P.Nodup→P[i]?=some x→vs[i]?=some v→kindOf x≠some .local→
  bindC kindOf (P.zip vs) m x=some v
 | [],_,_,_,_,h,_,_=>by simp at h
 | _ :: _,[],_,_,_,_,h,_=>by simp at h
 | p :: P,w :: vs,0,m,nd,h1,h2,hk=>by
  simp at h1 h2;subst h1;subst h2
  show bindC kindOf ((p,w) :: P.zip vs) m p=_
  unfold bindC
  rw [z07 fun v hv=>(List.nodup_cons.mp nd).1 (List.of_mem_zip hv).1,kz hk]
  simp
 | p :: P,w :: vs,i+1,m,nd,h1,h2,hk=>by
  show bindC kindOf ((p,w) :: P.zip vs) m x=_
  unfold bindC
  exact z08 (i:=i) (List.nodup_cons.mp nd).2 (by simpa using h1) (by simpa using h2) hk
noncomputable def jk (N:List Str) (vs:List V):St:=vs.map some++List.replicate (N.length - vs.length) none
noncomputable def cxOf (CX:CXT) (P:Program) (w:World) (K:ky) (mg:Str→Option Value) (base:Heap) (N:List Str) (qual:Str) (scope:Scope) (f:Addr) (cd:Value) (A:Around) (outer:List Env) (s:Shared) (H:Hp) (E:XK):Cx where
 prog:=P
 w:=w
 K:=K
 mg:=mg
 base:=base
 A:=A.deeper (envOfC qual scope s.heap.objs.size f cd)
 N:=N
 s₀:=s
 H₀:=H
 env:=envOfC qual scope s.heap.objs.size f cd
 outer:=outer
 stack:=envOfC qual scope s.heap.objs.size f cd :: outer
 ex:=[]
 calm:=true
 fn:=fun _=>true
 pn:=[]
 xe:=fun e s'=>wpAny (model P w) (A.deeper (envOfC qual scope s.heap.objs.size f cd)) (leaving (envOfC qual scope s.heap.objs.size f cd) e) (fun _ s''=>CX outer H s E e s'') (fun e' s''=>CX outer H s E e' s'') s'
theorem z1l {sc:Scope} {n:Nat} {x:Str} (h:sc.names.lookup x=some .cell):∃c,(cellsFrom n sc.names []).lookup x=some c:=by
 have q:=PySem.W.cellsFrom_some sc.names n [] (.inl h)
 exact Option.isSome_iff_exists.mp q
theorem z3t {CX:CXT} {P:Program} {w:World} {K:ky} {mg:Str→Option Value} {base:Heap} {N ps:List Str} {qual:Str} {scope:Scope} {f:Addr} {cd:Value} {A:Around} {outer:List Env} {s s1:Shared} {H:Hp} {E:XK} {us:List Value} {vs:List V}
  (S:zf N ps scope) (hd:A.handled=none) (e0:Env0 P w K mg base A outer s H) (hl:vs.length=ps.length) (r:Vals vs us)
  (x:InCallC s s.heap.objs.size (bindL (envOfC qual scope s.heap.objs.size f cd).kindOf (ps.zip us) fun _=>none) (cellsFrom (s.heap.objs.size+1) scope.names []) (bindC (envOfC qual scope s.heap.objs.size f cd).kindOf (ps.zip us) fun _=>none) s1):
  Inv (cxOf CX P w K mg base N qual scope f cd A outer s H E) [] (jk N vs) H s1:=by
 have hpl:ps.length≤N.length:=by have:=congrArg List.length S.pre;rw [List.length_take] at this;lia
 obtain ⟨h1,tk,rfl,hk⟩:=x.done
 have noA:∀b:Addr,b∉(cxOf CX P w K mg base N qual scope f cd A outer s H E).ex:=fun b z=>absurd (show b∈([]:List Addr) from z) (by simp)
 refine ⟨⟨e0.mod,S.kind,rfl,rfl,ke _,fun y z c h1 h2=>?_,fun y hy=>?_,fun y c _ h=>?_,fun _=>hd,Around.frames_deeper e0.frames,.inr ⟨rfl,rfl⟩,fun b z=>absurd z (noA b),e0.bs,e0.bsz,fun b _ _=>noA b,fun b z=>absurd z (noA b),e0.funs,e0.frf⟩,
  rfl,e0.bare,Un.kept hk,⟨_,x.toInCall.ns,fun i y v h1 h2 h3=>?_⟩,fun y c h=>⟨_,x.cell y c h⟩,e0.hok.fresh (ke _),fun y c h=>?_,fun p hp=>absurd (show p∈([]:List (Addr × Obj)) from hp) (by simp),e0.hok.kept hk,?_⟩
 ·exact name_of_addr x.apart (PySem.mem_of_lookup h1) (PySem.mem_of_lookup h2)
 ·have hy:scope.names.lookup y=some .cell∨scope.names.lookup y=some .free:=hy
  rcases hy with hy | hy
  ·exact z1l hy
  ·exact absurd rfl (S.nofree _ (PySem.mem_of_lookup hy))
 ·exact Nat.le_of_lt (x.above y c (PySem.mem_of_lookup h))
 ·have hi:i < vs.length:=by
   unfold jk at h2
   by_cases hi:i < vs.length
   ·exact hi
   ·rw [yg (by simpa using hi)] at h2
    rw [List.getElem?_replicate] at h2
    split at h2 <;> cases h2
  have ha:vs[i]?=some v:=by
   unfold jk at h2
   rw [yf (by simpa using hi),List.getElem?_map] at h2
   cases e:vs[i]? with
   | none=>rw [e] at h2;cases h2
   | some a=>rw [e] at h2;cases h2;rfl
  obtain ⟨u,hu,rv⟩:=r.get ha
  have hp:ps[i]?=some y:=by
   rw [←S.pre,List.getElem?_take_of_lt (by lia)];exact h1
  have ndP:ps.Nodup:=by rw [←S.pre];exact S.nd.sublist (List.take_sublist _ _)
  refine ⟨u,rv,?_⟩
  rcases S.par y (kG hp) with k | k
  ·exact .inl ⟨k,z06 ndP hp hu k⟩
  ·obtain ⟨c,e⟩:=z1l (n:=s.heap.objs.size+1) k
   refine .inr ⟨.inl k,c,e,?_⟩
   have q:=x.cell y c e
   rw [z08 ndP hp hu (by show scope.names.lookup y≠_;rw [k];decide)] at q
   exact q
 ·exact e0.hok.fresh (Nat.le_of_lt (x.above y c (PySem.mem_of_lookup h)))
 ·unfold jk
  show _=N.length
  rw [kl,kj,List.length_replicate]
  lia
theorem z8D {CX:CXT} {P:Program} {w:World} {K:ky} {mg:Str→Option Value} {base:Heap} {k:Nat} {f:Addr} {name qual:Str} {params:Arguments} {body:List Stmt} {scope:Scope} {dV kV doc pm cdv ct oc:Value} {an od:Option Addr}
  {osl:Array (Option Value)} {N ps:List Str} {sp:Sp} (lk:K.lookup f=some ⟨oc,od,.func (PySem.W.fnOf name qual params body scope dV kV doc pm an cdv ct),osl⟩) (hcd:PySem.W.codeIn K cdv qual=true) (S:zf N ps scope)
  (len:∀vs H Q E,sp vs H Q E→vs.length=ps.length)
  (hbody:∀(A:Around) (outer:List Env) (s:Shared) (H:Hp) (vs:List V) (Q:VK) (E:XK),Room k (A.deeper (envOfC qual scope s.heap.objs.size f cdv))→sp vs H Q E→
   ∃t,PSs (cxOf CX P w K mg base N qual scope f cdv A outer s H E) body t∧t { nx:=fun _ H'=>Q .non H',rt:=Q } (jk N vs) H):
  FnOk P w K mg base CX (k+1) f (PySem.W.fnOf name qual params body scope dV kV doc pm an cdv ct) ps sp:=by
 refine ⟨len,fun A outer s H args us vs Q E hr e0 hb r hsp=>?_⟩
 have hl:=len _ _ _ _ hsp
 have KX:K.In s.heap:=e0.mod.kin.keeps fun b o e=>(e0.bs b o e).1
 have lim:s.heap.NoLimit:=e0.mod.nolimit.keeps fun b o e=>(e0.bs b o e).1
 have hkind:∀y∈ps.zip us,scope.names.lookup y.1=some .local∨(scope.names.lookup y.1=some .cell∧((cellsFrom (s.heap.objs.size+1) scope.names []).lookup y.1).isSome=true):=fun ⟨n,v⟩ hy=>by
  rcases S.par n (List.of_mem_zip hy).1 with q | q
  ·exact .inl q
  ·exact .inr ⟨q,PySem.W.cellsFrom_some _ _ _ (.inl q)⟩
 refine codeAny_call_function hr.depth (KX _ _ lk) rfl S.co S.gen rfl (PySem.W.codeRec_of KX hcd) (hb _ _ _ _ ?_)
 refine wpAny_newFunctionEnv_cells S.kind hkind fun env he s1 x=>?_
 subst he
 refine ⟨lim.keeps x.toInCall.keep,codeAny_func ?_⟩
 obtain ⟨t,ht,hq⟩:=hbody A outer s H vs Q E (hr.deeper _) hsp
 have I:Inv (cxOf CX P w K mg base N qual scope f cdv A outer s H E) [] (jk N vs) H s1:=z3t S hr.hd e0 hl r x
 refine wpAny_mono (ht [] s1 (jk N vs) H _ I hq) (fun fl s' hs=>?_) fun e s' hs=>hs
 have fin:∀{σ':St} {H':Hp} {v:V} {u:Value},Inv (cxOf CX P w K mg base N qual scope f cdv A outer s H E) [] σ' H' s'→RelV v u→Q v H'→CE outer P w H s Q u s':=
  fun {σ' H' v u} J rv q=>⟨v,H',J.os,J.bare,J.base,J.hok,rv,q⟩
 cases fl with
 | ret u=>
  obtain ⟨v,σ',H',J,rv,q⟩:=hs
  exact fin J rv q
 | next=>
  obtain ⟨σ',H',J,q⟩:=hs
  exact fin (v:=V.non) (u:=Value.none) J rfl q
 | brk=>
  obtain ⟨_,_,_,q⟩:=hs
  exact False.elim q
 | cont=>
  obtain ⟨_,_,_,q⟩:=hs
  exact False.elim q
end L2
namespace L2
open PySem PySem.Spec PyProof.Rows
section
variable {X:Cx} {x:Str} {p pos:Pos} {e:Expr} {es:List Expr} {t:TA} {id T:String} {r:List V→Hp→VK→Prop}
def tCB (r:List V→Hp→VK→Prop) (t:TA):TE:=fun σ H Q=>t σ H fun vs H1=>r vs H1 Q
theorem zq (hc:Zj X (.builtin id) r) (hg:Gl X x) (hm:X.mg x=none) (hv:bootBuiltins x=some (.builtin id)) (ha:PA X (e :: es) t) (hn:autoParam (x≠"__name__") aR._auto_2) (hdb:autoParam ((x == ("__debug__":Str))=false) aR._auto_2)
  (he:autoParam (starEach (e :: es) X.env=(false,eval e X.env) :: starEach es X.env) aR._auto_1) (hpl:autoParam ((backTo pos (starEach es X.env)).any (·.1)=false) aR._auto_1):PE X (.Call (.Name x p) (e :: es) [] pos) (tCB r t):=by
 intro pins s σ H Q I h
 refine wpAny_Call_Name_kw (ZD I hg hm hv ?_ hn hdb)
 exact PyProof.Rows.callWith_builtin1 (thn (ha pos pins s σ H _ I h) fun us s1 ⟨vs,H1,I1,r1,q1⟩=>hc pins s1 σ H1 vs us Q I1 r1 q1) he hpl
theorem qW (hc:Zj X (.type T) r) (hg:Gl X x) (hm:X.mg x=none) (hv:bootBuiltins x=some (.type T)) (ha:PA X (e :: es) t) (hn:autoParam (x≠"__name__") aR._auto_2) (hdb:autoParam ((x == ("__debug__":Str))=false) aR._auto_2)
  (he:autoParam (starEach (e :: es) X.env=(false,eval e X.env) :: starEach es X.env) aR._auto_1) (hpl:autoParam ((backTo pos (starEach es X.env)).any (·.1)=false) aR._auto_1):PE X (.Call (.Name x p) (e :: es) [] pos) (tCB r t):=by
 intro pins s σ H Q I h
 refine wpAny_Call_Name_kw (ZD I hg hm hv ?_ hn hdb)
 exact PyProof.Rows.callWith_type1 (thn (ha pos pins s σ H _ I h) fun us s1 ⟨vs,H1,I1,r1,q1⟩=>hc pins s1 σ H1 vs us Q I1 r1 q1) he hpl
end
end L2
namespace HT
open PySem PyProof.Rows
section
open PySem.SeqAt
open PySem.AutoSeq1 (wpAny_loadPart')
open PySem.MeetsSeq PySem.MeetsSeq2 PySem.MeetsSeq3
end
section
variable {prog:Program} {w:World} {A:Around} {E:Value→Shared→Prop} {s:Shared}
theorem cat_tup {t b:Addr} {vs ws:List Value} {Q:Value→Shared→Prop} (ht:IsTup s.heap t vs.toArray) (hb:IsTup s.heap b ws.toArray) (hv:vs≠[])
  (h1:ws=[]→Q (.ref t) s) (h2:ws≠[]→Q (.ref s.heap.objs.size) { s with heap:=s.heap.push { cls:=.type "tuple",data:=.seq (vs++ws).toArray } })
  (hsz:vs.length+ws.length≤sizeLine):wpAny (model prog w) A (binaryOp .Add (.ref t) (.ref b)) Q E s:=by
 obtain ⟨⟨cls,dd,data,sl⟩,ho,hc,n,hd⟩:=id ht
 obtain ⟨⟨cls2,dd2,data2,sl2⟩,ho2,hc2,n2,hd2⟩:=id hb
 simp only at hc hd hc2 hd2
 subst hc hd hc2 hd2
 have e:vs.toArray++ws.toArray=(vs++ws).toArray:=by simp
 by_cases hw:ws=[]
 ·exact concat_meets ⟨_,ho,rfl⟩ ⟨_,ho2,rfl⟩ noFill_tuple_add seq_tuple_add PySem.F.slot_tuple_add PySem.F.entry_tuple_add (PySem.F.args_tuple_add_2 _ _)
   (tuple_addW1 t b vs.toArray ws.toArray n n2 dd dd2 sl sl2 (by simpa using hv) (by simp [hw])) ⟨ho,ho2,h1 hw⟩
 ·refine concat_meets ⟨_,ho,rfl⟩ ⟨_,ho2,rfl⟩ noFill_tuple_add seq_tuple_add PySem.F.slot_tuple_add PySem.F.entry_tuple_add (PySem.F.args_tuple_add_2 _ _)
   (tuple_addW2 t b vs.toArray ws.toArray n n2 dd dd2 sl sl2 (by simpa using hv) (by simpa using hw) (by rw [kE,kE];exact hsz)) ⟨ho,ho2,?_⟩
  rw [e]
  exact h2 hw
noncomputable def sIx (n d:Nat):Option Int→Nat
 | none=>d
 | some v=>if v < 0 then (v+(n:Int)).toNat else min v.toNat n
theorem sIx_nat (n d k:Nat):sIx n d (some (k:Int))=min k n:=by
 show (if (k:Int) < 0 then ((k:Int)+(n:Int)).toNat else min (k:Int).toNat n)=min k n
 rw [kz (by lia),kZ]
theorem z7T (n d:Nat) (hd:d≤n) (o:Option Int):sIx n d o≤n:=by
 cases o with
 | none=>exact hd
 | some v=>
  show (if v < 0 then (v+(n:Int)).toNat else min v.toNat n)≤n
  by_cases hv:v < 0
  ·rw [kA hv];lia
  ·rw [kz hv];exact Nat.min_le_right _ _
theorem z44 (v:Int) (n d:Nat):(if v < 0 then max (v+(n:Int)) 0 else min v (n:Int))=((sIx n d (some v):Nat):Int):=by
 show (if v < 0 then max (v+(n:Int)) 0 else min v (n:Int))=(((if v < 0 then (v+(n:Int)).toNat else min v.toNat n):Nat):Int)
 by_cases hv:v < 0
 ·simp only [kA hv];lia
 ·simp only [kz hv];lia
theorem z27 (lo hi:Option Int) (n:Nat):Builtin.Slice.sliceAdjust lo hi 1 (n:Int)=(((sIx n 0 lo:Nat):Int),((sIx n n hi:Nat):Int)):=by
 have h1:¬((1:Int) < 0):=by lia
 unfold Builtin.Slice.sliceAdjust
 simp only [h1,if_false]
 refine Prod.ext ?_ ?_
 ·cases lo with
  | none=>rfl
  | some v=>exact z44 v n 0
 ·cases hi with
  | none=>rfl
  | some v=>exact z44 v n n
theorem z1z (i j:Nat):Builtin.Slice.slicePlaces (i:Int) (j:Int) 1=j - i:=by
 unfold Builtin.Slice.slicePlaces
 have h1:(1:Int) > 0:=by lia
 simp only [h1,if_true,Int.ediv_one]
 split <;> lia
theorem QE {v:Value} {o:Option Int} {Q:Option Int→Shared→Prop} (p:IsPart v o) (h:Q o s):wpAny (model prog w) A (Builtin.Slice.slicePartIndex v) Q E s:=by
 cases p with
 | none=>exact slicePart_none h
 | int i t=>exact slicePart_int h
theorem ZH {sl:Addr} {vl vu:Value} {lo hi:Option Int} {n:Nat} {Q:Int × Int × Nat→Shared→Prop} (hs:s.heap.IsSliceOf sl vl vu .none) (pl:IsPart vl lo) (pu:IsPart vu hi)
  (h:Q (((sIx n 0 lo:Nat):Int),1,sIx n n hi - sIx n 0 lo) s):wpAny (model prog w) A (Builtin.Slice.sliceApplied (.ref sl) (pure (n:Int))) Q E s:=by
 obtain ⟨os,hos,hcs,hds⟩:=id hs
 unfold Builtin.Slice.sliceApplied Builtin.Slice.sliceFields
 refine wpAny_bind (wpAny_bind (wpAny_field hos hds (x:=vl) rfl (wpAny_bind (wpAny_field hos hds (x:=vu) rfl (wpAny_bind (wpAny_field hos hds (x:=.none) rfl (wpAny_pure ?_)))))))
 refine wpAny_bind (slicePart_none ?_)
 show wpAny _ _ (if ((1:Int) == 0)=true then _ else _) _ _ s
 rw [kz (by decide)]
 refine wpAny_bind (QE pl (wpAny_bind (QE pu (wpAny_bind (wpAny_pure ?_)))))
 show wpAny _ _ (match Builtin.Slice.sliceAdjust lo hi 1 (n:Int) with | (lo,hi)=>pure (lo,(1:Int),Builtin.Slice.slicePlaces lo hi 1)) _ _ s
 rw [z27 lo hi n]
 show wpAny _ _ (pure (((sIx n 0 lo:Nat):Int),(1:Int),Builtin.Slice.slicePlaces ((sIx n 0 lo:Nat):Int) ((sIx n n hi:Nat):Int) 1)) _ _ s
 rw [z1z]
 exact wpAny_pure h
theorem z4t (xs:Array Value) (i k:Nat):((List.range k).filterMap fun (m:Nat)=>xs[((i:Int)+(m:Int) * 1).toNat]?).toArray=((xs.toList.drop i).take k).toArray:=by
 have e:(fun (m:Nat)=>xs[((i:Int)+(m:Int) * 1).toNat]?)=fun m=>xs[i+m]?:=by
  funext m
  have:((i:Int)+(m:Int) * 1).toNat=i+m:=by lia
  rw [this]
 rw [e]
 have:=pick_run xs i k
 rw [List.filterMap_map] at this
 have e2:((fun x=>xs[x]?) ∘ fun x=>i+x)=fun m=>xs[i+m]?:=rfl
 rw [e2] at this
 rw [this]
theorem getItem_tuple_cut {t sl:Addr} {items:Array Value} {vl vu:Value} {lo hi:Option Int} {Q:Value→Shared→Prop} (ht:IsTup s.heap t items) (hs:s.heap.IsSliceOf sl vl vu .none) (pl:IsPart vl lo) (pu:IsPart vu hi)
  (hw:¬(sIx items.size 0 lo=0∧sIx items.size items.size hi=items.size))
  (h:Q (.ref s.heap.objs.size) { s with heap:=s.heap.push { cls:=.type "tuple",data:=.seq ((items.toList.drop (sIx items.size 0 lo)).take (sIx items.size items.size hi - sIx items.size 0 lo)).toArray } })
  (hsz:items.size≤sizeLine):wpAny (model prog w) A (getItem (.ref t) (.ref sl)) Q E s:=by
 have htake:sizeOk (.seq ((items.toList.drop (sIx items.size 0 lo)).take (sIx items.size items.size hi - sIx items.size 0 lo)).toArray):=by
  show ((items.toList.drop (sIx items.size 0 lo)).take (sIx items.size items.size hi - sIx items.size 0 lo)).toArray.size≤sizeLine
  rw [kE,List.length_take,List.length_drop,Array.length_toList]
  lia
 have hj:sIx items.size items.size hi≤items.size:=z7T _ _ (ke _) hi
 obtain ⟨os,hos,hcs,hds⟩:=id hs
 have hTs:s.TypeIs (.ref sl) "slice":=⟨os,hos,hcs⟩
 unfold getItem
 try with_reducible refine wpAny_holding ?_
 first | refine wpAny_bind (wpAny_pure ?_) | skip
 refine wpAny_bind (wpAny_sequenceKey ht.typeIs (by decide) ?_)
 refine wpAny_bind (wpAny_callSpecial?_slot (name:=Str.ofString "__getitem__") ht.typeIs PyProof.Rows.slot_tuple_getitem
  (wpAny_call_entry PyProof.Rows.slot_tuple_getitem ht.typeIs entry_tuple_getitem ?_ (args_tuple_getitem _ _)))
 show wpAny _ _ (Builtin.Tuple.tupleItemsOf (.ref t) >>= _) _ _ s
 refine wpAny_bind (tupleItemsOf_ ht ?_)
 refine wpAny_bind (wpAny_typeOf hTs ?_)
 rw [kA (by decide)]
 refine wpAny_bind (ZH hs pl pu ?_)
 have hno:¬((((sIx items.size 0 lo:Nat):Int) == 0&&(1:Int) == 1&&(sIx items.size items.size hi - sIx items.size 0 lo) == items.size)=true):=by
  intro q
  rw [yc,yc] at q
  have q1:((sIx items.size 0 lo:Nat):Int)=0:=eq_of_beq q.1.1
  have q2:sIx items.size items.size hi - sIx items.size 0 lo=items.size:=eq_of_beq q.2
  exact hw ⟨by lia,by lia⟩
 show wpAny _ _ (if (((sIx items.size 0 lo:Nat):Int) == 0&&(1:Int) == 1&&(sIx items.size items.size hi - sIx items.size 0 lo) == items.size)=true then _ else _) _ _ s
 rw [kz hno,z4t]
 first
  | exact wpAny_bind (m:=Builtin.Tuple.tupleExact _) (wpAny_newObj_type (wpAny_pure ⟨_,rfl,wpAny_pure h⟩) htake)
  | exact wpAny_bind (m:=Builtin.Tuple.tupleExact _) (wpAny_newObj_type (wpAny_bind (wpAny_pure (wpAny_pure ⟨_,rfl,wpAny_pure h⟩))) htake)
  | exact wpAny_bind (wpAny_bind (m:=Builtin.Tuple.tupleExact _) (wpAny_newObj_type (wpAny_pure (wpAny_pure ⟨_,rfl,wpAny_pure h⟩)) htake))
  | exact wpAny_bind (wpAny_bind (m:=Builtin.Tuple.tupleExact _) (wpAny_newObj_type (wpAny_pure ⟨_,rfl,wpAny_pure h⟩) htake))
end
end HT
namespace L2
open PySem PySem.Spec PyProof.Rows
abbrev TO:=St→Hp→(Option Int→Hp→Prop)→Prop
def PO (X:Cx) (e:Option Expr) (t:TO):Prop:=
 ∀(pins:List (Addr × Obj)) (s:Shared) (σ:St) (H:Hp) (Q:Option Int→Hp→Prop),Inv X pins σ H s→t σ H Q→
  wpAny (model X.prog X.w) X.A (evalPart e X.env) (fun u s'=>∃o H',Inv X pins σ H' s'∧IsPart u o∧Q o H') X.xe s
def z6g:TO:=fun _ H Q=>Q none H
def z8S (t:TE):TO:=fun σ H Q=>t σ H fun x H1=>∃i,x=.int i∧Q (some i) H1
section
variable {X:Cx} {e:Expr} {te:TE} {lo hi:Option Expr} {tl th:TO} {pos p2:Pos}
theorem Q4:PO X none z6g:=by
 intro pins s σ H Q I h
 rw [evalPart_none]
 exact wpAny_pure ⟨none,H,I,.none,h⟩
theorem Q3 (h:PE X e te):PO X (some e) (z8S te):=by
 intro pins s σ H Q I hw
 rw [evalPart_some]
 refine thn (h pins s σ H _ I hw) fun u s1 zz=>?_
 obtain ⟨x,H1,I1,r1,q1⟩:=zz
 obtain ⟨i,rfl,q⟩:=q1
 obtain ⟨t,rfl⟩:=r1
 exact ⟨some i,H1,I1,.int i t,q⟩
def SlR (X:Cx) (r:V→Option Int→Option Int→Hp→VK→Prop):Prop:=
 ∀(pins:List (Addr × Obj)) (s:Shared) (σ:St) (H:Hp) (x:V) (v vl vu:Value) (lo hi:Option Int) (sl:Addr) (Q:VK),Inv X pins σ H s→RelV x v→s.heap.IsSliceOf sl vl vu .none→IsPart vl lo→IsPart vu hi→r x lo hi H Q→
  ∃T id,typeLookup (.type T) "__getitem__"=pure (some (.builtin id))∧s.TypeIs v T∧wpAny (model X.prog X.w) X.A (getItem v (.ref sl)) (EP X pins σ Q) X.xe s
def tSl (r:V→Option Int→Option Int→Hp→VK→Prop) (te:TE) (tl th:TO):TE:=fun σ H Q=>te σ H fun x H1=>tl σ H1 fun l H2=>th σ H2 fun u H3=>r x l u H3 Q
theorem Z1 {r:V→Option Int→Option Int→Hp→VK→Prop} (hr:SlR X r) (he:PE X e te) (hl:PO X lo tl) (hu:PO X hi th):PE X (.Subscript e (.Slice lo hi none p2) pos) (tSl r te tl th):=by
 intro pins s σ H Q I h
 refine Subscript_ (thn (he pins s σ H _ I h) fun v s1 zz=>?_)
 obtain ⟨x,H1,I1,r1,q1⟩:=zz
 refine wpAny_Slice (thn (hl pins s1 σ H1 _ I1 q1) fun vl s2 ⟨l,H2,I2,pl,q2⟩=>thn (hu pins s2 σ H2 _ I2 q2) fun vu s3 zz=>?_)
 obtain ⟨u,H3,I3,pu,q3⟩:=zz
 rw [evalPart_none]
 refine wpAny_pure ?_
 have I4:Inv X pins σ H3 { s3 with heap:=s3.heap.push { cls:=.type "slice",data:=.fields #[vl,vu,.none] } }:=I3.kept (t':=s3.toks) fun b ob q=>Heap.get?_push_of_some _ q
 obtain ⟨T,id,hT,ht,hg⟩:=hr pins { s3 with heap:=s3.heap.push { cls:=.type "slice",data:=.fields #[vl,vu,.none] } } σ H3 x v vl vu l u s3.heap.objs.size Q I4 r1 (Heap.IsSliceOf.new ..) pl pu q3
 show wpAny (model X.prog X.w) X.A (subscriptTail e (.Slice lo hi none p2) v (.ref s3.heap.objs.size)) (EP X pins σ Q) X.xe { s3 with heap:=s3.heap.push { cls:=.type "slice",data:=.fields #[vl,vu,.none] } }
 exact tail_any (ops:=[.ref s3.heap.objs.size,v]) ht hT hg (by with_unfolding_all rfl)
noncomputable def cutV (xs:List V) (lo hi:Option Int):List V:=(xs.drop (HT.sIx xs.length 0 lo)).take (HT.sIx xs.length xs.length hi - HT.sIx xs.length 0 lo)
theorem jO (xs:List V) (lo hi:Option Int):(cutV xs lo hi).length≤xs.length:=by
 unfold cutV
 rw [List.length_take,List.length_drop]
 lia
def rSlT (K:ky):V→Option Int→Option Int→Hp→VK→Prop:=fun x lo hi H Q=>∃a xs,x=.ref a∧SqT K H a xs∧
 ¬(HT.sIx xs.length 0 lo=0∧HT.sIx xs.length xs.length hi=xs.length)∧∀p,H p=none→Q (.ref p) (upd H p (.tup (cutV xs lo hi)))
theorem z2z:SlR X (rSlT X.K):=by
 intro pins s σ H x v vl vu lo hi sl Q I rx hs pl pu h
 obtain ⟨a,xs,rfl,hx,hw,q⟩:=h
 cases rx
 obtain ⟨its,r,ht,hz⟩:=I.tuple hx
 have hlen:its.toArray.size=xs.length:=by rw [kE];exact r.length.symm
 refine ⟨"tuple",_,PyProof.Rows.slot_tuple_getitem.lookup,ht.typeIs,?_⟩
 refine HT.getItem_tuple_cut ht hs pl pu (by rw [hlen];exact hw) ?_ (by rw [hlen];exact hz)
 rw [hlen]
 refine ⟨.ref s.heap.objs.size,_,I.laid (t':=s.toks) (o:=.tup (cutV xs lo hi)) (fun b ob q=>Heap.get?_push_of_some _ q) (ke _) ?_,rfl,q _ (I.hok.fresh (ke _))⟩
 exact ⟨ku (jO xs lo hi) hz,_,(r.drop (HT.sIx xs.length 0 lo)).take (HT.sIx xs.length xs.length hi - HT.sIx xs.length 0 lo),IsTup.new _ _⟩
def z9n (K:ky):R2:=fun x y H Q=>∃a b xs ys,x=.ref a∧y=.ref b∧SqT K H a xs∧SqT K H b ys∧xs≠[]∧xs.length+ys.length≤sizeLine∧
 (ys=[]→Q (.ref a) H)∧(ys≠[]→∀p,H p=none→Q (.ref p) (upd H p (.tup (xs++ys))))
theorem Vals.nil_iff {xs:List V} {us:List Value} (r:Vals xs us):us=[]↔xs=[]:=by
 cases r with
 | nil=>simp
 | cons _ _=>simp
theorem z35:OpR X (binaryOp .Add) (z9n X.K):=by
 intro pins s σ H x y v u Q I rx ry h
 obtain ⟨a,b,xs,ys,rfl,rfl,ha,hb,hx,hz,q1,q2⟩:=h
 cases rx
 cases ry
 obtain ⟨its,r1,p1,_⟩:=I.tuple ha
 obtain ⟨its2,r2,p2,_⟩:=I.tuple hb
 refine HT.cat_tup p1 p2 (fun z=>hx (r1.nil_iff.mp z)) (fun z=>⟨.ref a,H,I,rfl,q1 (r2.nil_iff.mp z)⟩) (fun z=>?_) (by rw [←r1.length,←r2.length];exact hz)
 refine ⟨.ref s.heap.objs.size,_,I.laid (t':=s.toks) (o:=.tup (xs++ys)) (fun b ob q=>Heap.get?_push_of_some _ q) (ke _) ?_,rfl,q2 (fun w=>z (r2.nil_iff.mpr w)) _ (I.hok.fresh (ke _))⟩
 exact ⟨by rw [kl];exact hz,_,r1.append r2,IsTup.new _ _⟩
end
end L2
namespace L2
open PySem PySem.Spec PyProof.Rows
noncomputable def ixN (n:Nat) (i:Int):Option Nat:=if 0≤i then (if i < n then some i.toNat else none) else if -(n:Int)≤i then some (i+n).toNat else none
noncomputable def atI {α:Type} (xs:List α) (i:Int):Option α:=(ixN xs.length i).bind fun j=>xs[j]?
theorem z3p {n:Nat} {i:Int} {j:Nat} (h:ixN n i=some j):seqIndex? i n=some j∧j < n∧-(n:Int)≤i∧i < n:=by
 unfold ixN at h
 by_cases h0:0≤i
 ·rw [kA h0] at h
  by_cases h1:i < n
  ·rw [kA h1] at h
   have e:i.toNat=j:=kB h
   exact ⟨by rw [seqIndex_of h0 h1,e],by lia,by lia,h1⟩
  ·rw [kz h1] at h;cases h
 ·rw [kz h0] at h
  by_cases h1: -(n:Int)≤i
  ·rw [kA h1] at h
   have e:(i+n).toNat=j:=kB h
   exact ⟨by rw [seqIndex_neg (by lia) h1,e],by lia,h1,by lia⟩
  ·rw [kz h1] at h;cases h
theorem z49 {α:Type} {xs:List α} {i:Int} {v:α} (h:atI xs i=some v):∃j,seqIndex? i xs.length=some j∧xs[j]?=some v∧j < xs.length∧-(xs.length:Int)≤i∧i < xs.length:=by
 unfold atI at h
 cases e:ixN xs.length i with
 | none=>rw [e] at h;cases h
 | some j=>
  rw [e] at h
  obtain ⟨h1,h2,h3,h4⟩:=z3p e
  exact ⟨j,h1,h,h2,h3,h4⟩
theorem zj {α:Type} {xs:List α} {j:Nat} {v:α} (h:xs[j]?=some v):atI xs (j:Int)=some v:=by
 have hj:j < xs.length:=(kf.mp h).1
 have e:ixN xs.length (j:Int)=some j:=by
  unfold ixN
  rw [kA (by lia),kA (by lia)];simp
 unfold atI;rw [e];exact h
theorem z1n {α:Type} (xs:List α) (v:α):atI (xs++[v]) (-1)=some v:=by
 have hl:(xs++[v]).length=xs.length+1:=by simp
 have e:ixN (xs++[v]).length (-1)=some xs.length:=by
  unfold ixN
  rw [hl,kz (by decide),kA (by lia)]
  congr 1
  lia
 unfold atI
 rw [e]
 show (xs++[v])[xs.length]?=some v
 simp
def z7u (b:Expr):Prop:=∀o i,subscripted b false o i=operate [o,i] (getItem o i)
def IxR (X:Cx) (r:R2):Prop:=
 ∀(value slice:Expr) (pins:List (Addr × Obj)) (s:Shared) (σ:St) (H:Hp) (x y:V) (v u:Value) (Q:VK),Inv X pins σ H s→RelV x v→RelV y u→r x y H Q→
  subscripted slice false v u=operate [v,u] (getItem v u)→wpAny (model X.prog X.w) X.A (subscriptTail value slice v u) (EP X pins σ Q) X.xe s
def MtR (X:Cx) (id:String) (r:V→List V→Hp→VK→Prop):Prop:=
 ∀(pins:List (Addr × Obj)) (s:Shared) (σ:St) (H:Hp) (x:V) (xs:List V) (v:Value) (us:List Value) (Q:VK),Inv X pins σ H s→RelV x v→Vals xs us→r x xs H Q→
  wpAny (model X.prog X.w) X.A (call (.builtin id) (v :: us)) (EP X pins σ Q) X.xe s
section
variable {X:Cx} {a b:Expr} {ta tb:TE} {pos:Pos}
theorem zD {r:R2} (hr:IxR X r) (ha:PE X a ta) (hb:PE X b tb) (hs:z7u b):PE X (.Subscript a b pos) (tOp r ta tb):=by
 intro pins s σ H Q I h
 exact Subscript_ (binT ha hb I h fun v u s2 x y H2 I2 rx ry q=>hr a b pins s2 σ H2 x y v u Q I2 rx ry q (hs _ _))
def rIxL (K:ky):R2:=fun x y H Q=>∃p xs i v,x=.ref p∧y=.int i∧SqL K H p xs∧atI xs i=some v∧Q v H
def rIxT (K:ky):R2:=fun x y H Q=>∃p xs i v,x=.ref p∧y=.int i∧SqT K H p xs∧atI xs i=some v∧Q v H
theorem zG:IxR X (rIxL X.K):=by
 intro value slice pins s σ H x y v u Q I rx ry h hs
 obtain ⟨p,xs,i,z,rfl,rfl,hq,he,q⟩:=h
 cases rx
 obtain ⟨t,rfl⟩:=ry
 obtain ⟨its,r,pl,hz⟩:=I.list hq
 obtain ⟨j,h1,h2,h3,h4,h5⟩:=z49 he
 obtain ⟨w,ew,rw'⟩:=r.get h2
 have hl:=r.length
 have hn:=Qc
 have fin:EP X pins σ Q w s:=⟨z,H,I,rw',q⟩
 by_cases h0:0≤i
 ·have hj:i.toNat=j:=by
   rw [seqIndex_of h0 h5] at h1
   exact kB h1
  exact item_listR pl.isList h0 (by lia) (by rw [hj];simpa using ew) fin hs
 ·have hj:(i+(its.toArray.size:Int)).toNat=j:=by
   rw [seqIndex_neg (by lia) h4] at h1
   rw [kE,←hl]
   exact kB h1
  exact subscriptTail_builtinR (x:=w) pl.isList.typeIs slot_list_getitem.lookup
   (wpAny_getItem_list_neg (Q:=fun r s'=>r=w∧EP X pins σ Q r s') pl.isList (by lia) (by rw [kE] <;> lia) (by lia) (by rw [hj];simpa using ew) ⟨rfl,fin⟩) hs
theorem zU:IxR X (rIxT X.K):=by
 intro value slice pins s σ H x y v u Q I rx ry h hs
 obtain ⟨p,xs,i,z,rfl,rfl,hq,he,q⟩:=h
 cases rx
 obtain ⟨t,rfl⟩:=ry
 obtain ⟨its,r,pl,hz⟩:=I.tuple hq
 obtain ⟨j,h1,h2,h3,h4,h5⟩:=z49 he
 obtain ⟨w,ew,rw'⟩:=r.get h2
 have hl:=r.length
 have hn:=Qc
 have fin:EP X pins σ Q w s:=⟨z,H,I,rw',q⟩
 exact subscriptTail_builtinR (x:=w) pl.typeIs slot_tuple_getitem.lookup
  (getItem_tuple (j:=j) (Q:=fun r s'=>r=w∧EP X pins σ Q r s') pl (by lia) (by lia) (by rw [kE,←hl];exact h1) (by simpa using ew) ⟨rfl,fin⟩) hs
theorem z1H (its:List Value) (n j:Nat) (u:Value):Obj.mapSeq (·.setIfInBounds j u) { cls:=.type "list",data:=.seq its.toArray n }={ cls:=.type "list",data:=.seq (its.set j u).toArray n }:=by
 simp [Obj.mapSeq]
theorem Inv.lst {pins:List (Addr × Obj)} {σ:St} {H:Hp} {s:Shared} {p:Addr} {xs:List V} (I:Inv X pins σ H s) (h:H p=some (.lst xs)):
  ∃(its:List Value) (n:Nat),Vals xs its∧s.heap.get? p=some { cls:=.type "list",data:=.seq its.toArray n }∧xs.length≤sizeLine:=by
 obtain ⟨z,its,n,r,e⟩:=I.hok p _ h
 exact ⟨its,n,r,e,z⟩
theorem Inv.lstUpd {pins:List (Addr × Obj)} {σ:St} {H:Hp} {s:Shared} {p:Addr} {xs ys:List V} {its its':List Value} {n n':Nat} {f:Obj→Obj} (I:Inv X pins σ H s) (h:H p=some (.lst xs))
  (ho:s.heap.get? p=some { cls:=.type "list",data:=.seq its.toArray n }) (hf:f { cls:=.type "list",data:=.seq its.toArray n }={ cls:=.type "list",data:=.seq its'.toArray n' }) (r:Vals ys its') (hz:ys.length≤sizeLine) (t:Nat):
  Inv X pins σ (upd H p (.lst ys)) { s with heap:=s.heap.update p f,toks:=t }:=by
 have e:(s.heap.update p f).get? p=some { cls:=.type "list",data:=.seq its'.toArray n' }:=by
  rw [Heap.get?_update_self f ho (by rw [hf] <;> rfl),hf]
 refine I.write (x:=p) (e:=p) (by rw [h];trivial) (.inl rfl) (fun b u hb q=>(Heap.get?_update_other _ _ (Ne.symm hb)).trans q) ⟨_,e⟩ ?_
 exact ⟨hz,its',n',r,e⟩
def z9l:V→V→V→Hp→(Hp→Prop)→Prop:=fun o i v H Q=>∃p xs k j,o=.ref p∧i=.int k∧H p=some (.lst xs)∧ixN xs.length k=some j∧Q (upd H p (.lst (xs.set j v)))
theorem j5:PSet X z9l:=by
 intro pins s σ H o i v ov iv u Q I ro ri rv h
 obtain ⟨p,xs,k,j,rfl,rfl,hp,hj,q⟩:=h
 cases ro
 obtain ⟨t,rfl⟩:=ri
 obtain ⟨its,n,r,ho,hz⟩:=I.lst hp
 obtain ⟨h1,h2,h3,h4⟩:=z3p hj
 have hl:=r.length
 have hn:=Qc
 have I':Inv X pins σ (upd H p (.lst (xs.set j v))) { s with heap:=s.heap.update p (Obj.mapSeq (·.setIfInBounds j u)) }:=
  I.lstUpd hp ho (z1H its n j u) (r.set rv j) (by rw [List.length_set];exact hz) s.toks
 by_cases h0:0≤k
 ·have hk:k.toNat=j:=by
   rw [seqIndex_of h0 h4] at h1
   exact kB h1
  exact PySem.W.ki_setAt ho h0 (by lia) (by rw [kE,←hl];exact h4) (by rw [hk];exact ⟨_,I',q⟩)
 ·have hk:(k+(its.toArray.size:Int)).toNat=j:=by
   rw [seqIndex_neg (by lia) h3] at h1
   rw [kE,←hl]
   exact kB h1
  exact PySem.W.ki_setBack ho (by lia) (by rw [kE,←hl];exact h3) (by lia) (by rw [hk];exact ⟨_,I',q⟩)
theorem Jq (lo hi:Option Int) (n:Nat):(sliceBounds lo hi none n).1=((HT.sIx n 0 lo:Nat):Int)∧(sliceBounds lo hi none n).2.1=((HT.sIx n n hi:Nat):Int)∧(sliceBounds lo hi none n).2.2=1:=by
 refine ⟨?_,?_,rfl⟩
 ·cases lo with
  | none=>simp [sliceBounds,HT.sIx]
  | some i=>
   simp only [sliceBounds,HT.sIx,Option.getD_none,show (1:Int) > 0 by decide,if_true]
   by_cases h:i < 0
   ·simp only [h,if_true] <;> lia
   ·simp only [h,if_false] <;> lia
 ·cases hi with
  | none=>simp [sliceBounds,HT.sIx]
  | some i=>
   simp only [sliceBounds,HT.sIx,Option.getD_none,show (1:Int) > 0 by decide,if_true]
   by_cases h:i < 0
   ·simp only [h,if_true] <;> lia
   ·simp only [h,if_false] <;> lia
theorem QV (its:List Value) (lo hi:Option Int):slicePick its.toArray lo hi none=((its.drop (HT.sIx its.length 0 lo)).take (HT.sIx its.length its.length hi - HT.sIx its.length 0 lo)).toArray:=by
 obtain ⟨h1,h2,h3⟩:=Jq lo hi its.toArray.size
 unfold slicePick
 rw [h1,h2,h3]
 simp only [sliceRange_one,pick_run,kE] <;> rfl
def rSlL (K:ky):V→Option Int→Option Int→Hp→VK→Prop:=fun x lo hi H Q=>∃a xs,x=.ref a∧SqL K H a xs∧∀p,H p=none→Q (.ref p) (upd H p (.lst (cutV xs lo hi)))
theorem z2A:SlR X (rSlL X.K):=by
 intro pins s σ H x v vl vu lo hi sl Q I rx hs pl pu h
 obtain ⟨a,xs,rfl,hx,q⟩:=h
 cases rx
 obtain ⟨its,r,ht,hz⟩:=I.list hx
 have hlen:=r.length
 refine ⟨"list",_,slot_list_getitem.lookup,ht.isList.typeIs,?_⟩
 refine wpAny_getItem_list_slice ht.isList hs pl pu .none (by simp) ?_ (by rw [kE] <;> lia)
 rw [QV,←hlen]
 refine ⟨.ref s.heap.objs.size,_,I.laid (t':=s.toks) (o:=.lst (cutV xs lo hi)) (fun b ob q=>Heap.get?_push_of_some _ q) (ke _) ?_,rfl,q _ (I.hok.fresh (ke _))⟩
 exact ⟨ku (jO xs lo hi) hz,_,0,(r.drop (HT.sIx xs.length 0 lo)).take (HT.sIx xs.length xs.length hi - HT.sIx xs.length 0 lo),Heap.get?_push_size _ rfl⟩
noncomputable def jB:V→Bool
 | .non=>true
 | .bl _=>true
 | .int _=>true
 | .str _=>true
 | _=>false
noncomputable def eqV:V→V→Bool
 | .non,.non=>true
 | .bl a,.bl b=>a == b
 | .bl a,.int b=>(if a then 1 else 0) == b
 | .int a,.bl b=>a == (if b then 1 else 0)
 | .int a,.int b=>a == b
 | .str a,.str b=>a == b
 | _,_=>false
theorem z3O {A:Around} {s:Shared} {y x:V} {u v:Value} (ry:RelV y u) (rx:RelV x v) (fy:jB y=true) (fx:jB x=true):SeqAt.EqAt A s u v (eqV y x):=by
 cases y with
 | non=>
  cases ry
  cases x with
  | non=>cases rx;exact SeqAt.EqAt.same _
  | bl b=>cases rx;exact SeqAt.EqAt.none_bool b
  | int b=>obtain ⟨t,rfl⟩:=rx;exact SeqAt.EqAt.none_int b t
  | str b=>obtain ⟨t,rfl⟩:=rx;exact SeqAt.EqAt.none_str b t
  | _=>exact absurd (show false=true from fx) ka
 | bl a=>
  cases ry
  cases x with
  | non=>cases rx;exact SeqAt.EqAt.bool_none a
  | bl b=>cases rx;exact SeqAt.EqAt.bool_bool a b
  | int b=>obtain ⟨t,rfl⟩:=rx;exact SeqAt.EqAt.bool_int a b t
  | str b=>obtain ⟨t,rfl⟩:=rx;exact SeqAt.EqAt.bool_str a b t
  | _=>exact absurd (show false=true from fx) ka
 | int a=>
  obtain ⟨t',rfl⟩:=ry
  cases x with
  | non=>cases rx;exact SeqAt.EqAt.int_none a t'
  | bl b=>cases rx;exact SeqAt.EqAt.int_bool a t' b
  | int b=>obtain ⟨t,rfl⟩:=rx;exact SeqAt.EqAt.int_int a t' b t
  | str b=>obtain ⟨t,rfl⟩:=rx;exact SeqAt.EqAt.int_str a t' b t
  | _=>exact absurd (show false=true from fx) ka
 | str a=>
  obtain ⟨t',rfl⟩:=ry
  cases x with
  | non=>cases rx;exact SeqAt.EqAt.str_none a t'
  | bl b=>cases rx;exact SeqAt.EqAt.str_bool a t' b
  | int b=>obtain ⟨t,rfl⟩:=rx;exact SeqAt.EqAt.str_int a t' b t
  | str b=>obtain ⟨t,rfl⟩:=rx;exact SeqAt.EqAt.str_str a t' b t
  | _=>exact absurd (show false=true from fx) ka
 | _=>exact absurd (show false=true from fy) ka
noncomputable def eqU (x:V) (u:Value):Bool:=match u with
 | .none=>eqV .non x
 | .bool b=>eqV (.bl b) x
 | .int i _=>eqV (.int i) x
 | .str z _=>eqV (.str z) x
 | _=>false
theorem z65 {x y:V} {u:Value} (r:RelV y u) (f:jB y=true):eqU x u=eqV y x:=by
 cases y with
 | non=>cases r;rfl
 | bl b=>cases r;rfl
 | int i=>obtain ⟨t,rfl⟩:=r;rfl
 | str z=>obtain ⟨t,rfl⟩:=r;rfl
 | _=>exact absurd (show false=true from f) ka
theorem Qo {x:V}:∀{xs:List V} {us:List Value},Vals xs us→xs.all jB=true→us.any (eqU x)=xs.any fun y=>eqV y x
 | _,_,.nil,_=>rfl
 | y :: xs,u :: us,.cons r t,f=>by
  rw [List.all_cons,yc] at f
  rw [List.any_cons,List.any_cons,z65 r f.1,Qo t f.2]
theorem Z4 {A:Around} {s:Shared} {x:V} {v:Value} (rx:RelV x v) (fx:jB x=true):∀{xs:List V} {us:List Value},Vals xs us→xs.all jB=true→∀u∈us,SeqAt.EqAt A s u v (eqU x u)
 | _,_,.nil,_=>fun u hu=>by cases hu
 | y :: xs,u :: us,.cons r t,f=>fun u' hu=>by
  rw [List.all_cons,yc] at f
  rcases kD.mp hu with rfl | hu
  ·rw [z65 r f.1];exact z3O r rx f.1 fx
  ·exact Z4 rx fx t f.2 u' hu
noncomputable def inV (x:V) (xs:List V):Bool:=xs.any fun y=>eqV y x
def rIn (K:ky) (neg:Bool):R2:=fun x y H Q=>∃p xs,y=.ref p∧(SqL K H p xs∨SqT K H p xs)∧jB x=true∧xs.all jB=true∧Q (.bl (if neg then !inV x xs else inV x xs)) H
theorem qX:OpR X (compareOp .In) (rIn X.K false):=by
 intro pins s σ H x y v u Q I rx ry h
 obtain ⟨p,xs,rfl,hq,fx,fs,q⟩:=h
 cases ry
 rcases hq with hq | hq
 ·obtain ⟨its,r,pl,hz⟩:=I.list hq
  refine SeqAt.in_listAt (eqU x) pl.isList (fun w hw=>Z4 rx fx r fs w (by simpa using hw)) ⟨.bl _,H,I,rfl,?_⟩
  rw [show its.toArray.any (eqU x)=its.any (eqU x) by simp,Qo r fs]
  exact q
 ·obtain ⟨its,r,pl,hz⟩:=I.tuple hq
  refine SeqAt.in_tupleAt (eqU x) pl (fun w hw=>Z4 rx fx r fs w (by simpa using hw)) ⟨.bl _,H,I,rfl,?_⟩
  rw [show its.toArray.any (eqU x)=its.any (eqU x) by simp,Qo r fs]
  exact q
theorem Jz:OpR X (compareOp .NotIn) (rIn X.K true):=by
 intro pins s σ H x y v u Q I rx ry h
 obtain ⟨p,xs,rfl,hq,fx,fs,q⟩:=h
 cases ry
 rcases hq with hq | hq
 ·obtain ⟨its,r,pl,hz⟩:=I.list hq
  refine SeqAt.notIn_listAt (eqU x) pl.isList (fun w hw=>Z4 rx fx r fs w (by simpa using hw)) ⟨.bl _,H,I,rfl,?_⟩
  rw [show its.toArray.any (eqU x)=its.any (eqU x) by simp,Qo r fs]
  exact q
 ·obtain ⟨its,r,pl,hz⟩:=I.tuple hq
  refine SeqAt.notIn_tupleAt (eqU x) pl (fun w hw=>Z4 rx fx r fs w (by simpa using hw)) ⟨.bl _,H,I,rfl,?_⟩
  rw [show its.toArray.any (eqU x)=its.any (eqU x) by simp,Qo r fs]
  exact q
theorem zu:Zj X (.builtin "len") (fun xs H Q=>∃p ys,xs=[.ref p]∧(SqL X.K H p ys∨SqT X.K H p ys)∧Q (.int ys.length) H):=by
 intro pins s σ H xs us Q I r h
 obtain ⟨p,ys,rfl,hq,q⟩:=h
 obtain ⟨u,rfl,rx⟩:=QR r
 cases rx
 have hn:=Qc
 rcases hq with hq | hq
 ·obtain ⟨its,r',pl,hz⟩:=I.list hq
  have hlen:=r'.length
  exact Calls.call_len_list pl.isList (by simp only [kE] <;> lia) ⟨.int ys.length,H,I.tok _,⟨s.toks+1,by rw [kE,hlen]⟩,q⟩
 ·obtain ⟨its,r',pl,hz⟩:=I.tuple hq
  have hlen:=r'.length
  exact len_tuple pl (by simp only [kE] <;> lia) ⟨.int ys.length,H,I.tok _,⟨s.toks+1,by rw [kE,hlen]⟩,q⟩
theorem z01:Zj X (.builtin "len") (fun xs H Q=>∃z,xs=[.str z]∧z.length≤sizeLine∧Q (.int z.length) H):=by
 intro pins s σ H xs us Q I r h
 obtain ⟨z,rfl,hz,q⟩:=h
 obtain ⟨u,rfl,t,rfl⟩:=QR r
 have hn:=Qc
 exact len_str (by lia) ⟨.int z.length,H,I.tok _,⟨_,rfl⟩,q⟩
theorem qI:Zj X (.type "list") (fun xs H Q=>∃p ys,xs=[.ref p]∧(SqL X.K H p ys∨SqT X.K H p ys)∧∀l,H l=none→Q (.ref l) (upd H l (.lst ys))):=by
 intro pins s σ H xs us Q I r h
 obtain ⟨p,ys,rfl,hq,q⟩:=h
 obtain ⟨u,rfl,rx⟩:=QR r
 cases rx
 have fin:∀(its:List Value),Vals ys its→ys.length≤sizeLine→∀(h':Heap) (c':Nat),(∀b o',s.heap.get? b=some o'→h'.get? b=some o')→
   h'.get? s.heap.objs.size=some { cls:=.type "list",dict:=none,data:=.seq its.toArray c',slots:=#[] }→EP X pins σ Q (.ref s.heap.objs.size) { s with heap:=h' }:=fun its r' hz h' c' kp e=>
  ⟨.ref s.heap.objs.size,_,I.laid (t':=s.toks) kp (ke _) (show qe X.prog X.w _ h' _ (.lst ys) from ⟨hz,its,c',r',e⟩),rfl,q _ (I.hok.fresh (ke _))⟩
 rcases hq with hq | hq
 ·obtain ⟨its,r',pl,hz⟩:=I.list hq
  have hlen:=r'.length
  obtain ⟨o,ho,hc,n,hd⟩:=pl.isList
  exact call_list_seq p (.inl rfl) ho hc hd (fun h' c' kp e=>fin its r' hz h' c' kp e) (by simp only [kE] <;> lia)
 ·obtain ⟨its,r',pl,hz⟩:=I.tuple hq
  have hlen:=r'.length
  obtain ⟨o,ho,hc,n,hd⟩:=pl
  exact call_list_seq p (.inr rfl) ho hc hd (fun h' c' kp e=>fin its r' hz h' c' kp e) (by simp only [kE] <;> lia)
def tyV (K:ky) (T:String) (x:V) (H:Hp):Prop:=match x with
 | .str _=>T="str"
 | .int _=>T="int"
 | .ref p=>(T="list"∧∃xs,SqL K H p xs)∨(T="tuple"∧∃o,K.lookup p=some o∧o.cls=.type "tuple"∧o.dict=none)∨
   (T="dict"∧((∃kvs,H p=some (.dK kvs))∨∃kvs,H p=some (.dT kvs)))∨(T="set"∧∃S n,H p=some (.set S n))
 | _=>False
theorem z5v {pins:List (Addr × Obj)} {σ:St} {H:Hp} {s:Shared} {T:String} {x:V} {v:Value} (I:Inv X pins σ H s) (r:RelV x v) (ty:tyV X.K T x H):
  s.TypeIs v T∧∀a,v=.ref a→∃ob,s.heap.get? a=some ob∧ob.dict=none:=by
 cases x with
 | str z=>
  obtain ⟨t,rfl⟩:=r
  cases (show T="str" from ty)
  exact ⟨typeIs_str s z t,fun _ e=>nomatch e⟩
 | int i=>
  obtain ⟨t,rfl⟩:=r
  cases (show T="int" from ty)
  exact ⟨typeIs_int s i t,fun _ e=>nomatch e⟩
 | ref p=>
  cases r
  rcases ty with ⟨rfl,xs,hq⟩ | ⟨rfl,o,hk,hc,hd⟩ | ⟨rfl,hk⟩ | ⟨rfl,S,n,hk⟩
  ·obtain ⟨its,_,pl,_⟩:=I.list hq
   refine ⟨pl.isList.typeIs,fun a e=>?_⟩
   cases e
   obtain ⟨o,n,e,c,hd,_⟩:=pl
   exact ⟨o,e,hd⟩
  ·refine ⟨⟨o,I.kIn p o hk,hc⟩,fun a e=>?_⟩
   cases e
   exact ⟨o,I.kIn _ o hk,hd⟩
  ·have z:∃o,s.heap.get? p=some o∧o.ExactDict:=by
    rcases hk with ⟨kvs,hk⟩ | ⟨kvs,hk⟩
    ·obtain ⟨_,_,_,_,o,_,_,e,ex,_⟩:=I.hok p _ hk
     exact ⟨o,e,ex⟩
    ·obtain ⟨_,_,_,_,o,_,_,e,ex,_⟩:=I.hok p _ hk
     exact ⟨o,e,ex⟩
   obtain ⟨o,e,ex⟩:=z
   refine ⟨⟨o,e,ex.1⟩,fun a e2=>?_⟩
   cases e2
   exact ⟨o,e,ex.2.1⟩
  ·obtain ⟨o,_,_,_,e,ex,_⟩:=I.hok p _ hk
   refine ⟨⟨o,e,ex.1⟩,fun a e2=>?_⟩
   cases e2
   exact ⟨o,e,ex.2.1⟩
 | _=>exact False.elim ty
def tBM0 (K:ky) (T:String) (r:V→List V→Hp→VK→Prop) (to:TE):TE:=fun σ H Q=>to σ H fun x H1=>tyV K T x H1∧r x [] H1 Q
def tBM (K:ky) (T:String) (r:V→List V→Hp→VK→Prop) (to:TE) (t:TA):TE:=fun σ H Q=>to σ H fun x H1=>tyV K T x H1∧t σ H1 fun xs H2=>r x xs H2 Q
variable {o e:Expr} {es:List Expr} {to:TE} {t:TA} {name:Str} {apos cpos:Pos} {T id:String} {r:V→List V→Hp→VK→Prop}
theorem z13 (pa:PlainAttrs T) (slot:Slot T name id) (hty:typeOf (.builtin id)=pure (.type "method_descriptor")) (hm:MtR X id r) (ho:PE X o to)
  (hbase:autoParam (attributeBase o name X.env (eval o X.env)=eval o X.env) aR._auto_1) (hline:autoParam ((apos.endLine == cpos.line)=true) aR._auto_1):PE X (.Call (.Attribute o name apos) [] [] cpos) (tBM0 X.K T r to):=by
 intro pins s σ H Q I h
 refine wpAny_Call_method0_late hbase hline (thn (ho pins s σ H _ I h) fun v s1 zz=>?_)
 obtain ⟨x,H1,I1,r1,ty,q1⟩:=zz
 obtain ⟨h1,h2⟩:=z5v I1 r1 ty
 exact ⟨T,id,pa,slot,hty,h1,h2,Calls.callWith_builtin rfl (PySem.evalArgs_none (hm pins s1 σ H1 x [] v [] Q I1 r1 .nil q1))⟩
theorem z0r (pa:PlainAttrs T) (slot:Slot T name id) (hty:typeOf (.builtin id)=pure (.type "method_descriptor")) (hm:MtR X id r) (ho:PE X o to) (ha:PA X (e :: es) t)
  (hbase:autoParam (attributeBase o name X.env (eval o X.env)=eval o X.env) aR._auto_1)
  (hfew:autoParam (((backTo cpos (starEach (e :: es) X.env)).all (fun x=> !x.1)&&(backToKw cpos (keywordEach [] X.env)).all (fun x=>x.1.isSome)
   &&decide ((e :: es).length+([]:List Keyword).length+(if ([]:List Keyword).isEmpty then 0 else 1) < 30))=true) aR._auto_1)
  (hline:autoParam ((apos.endLine == cpos.line)=true) aR._auto_1) (hs:autoParam (starEach (e :: es) X.env=(false,eval e X.env) :: starEach es X.env) aR._auto_1) (hplain:autoParam ((backTo cpos (starEach es X.env)).any (·.1)=false) aR._auto_1):
  PE X (.Call (.Attribute o name apos) (e :: es) [] cpos) (tBM X.K T r to t):=by
 intro pins s σ H Q I h
 refine wpAny_Call_method_late hbase hfew hline rfl (thn (ho pins s σ H _ I h) fun v s1 zz=>?_)
 obtain ⟨x,H1,I1,r1,ty,q1⟩:=zz
 obtain ⟨h1,h2⟩:=z5v I1 r1 ty
 refine ⟨T,id,pa,slot,hty,h1,h2,?_⟩
 have hA:=ha cpos pins s1 σ H1 _ I1 q1
 rw [hs] at hA ⊢
 refine Calls.callWith_builtin (by show (false||(backTo cpos (starEach es X.env)).any (·.1))=false;rw [hplain] <;> rfl) (Calls.evalArgs_plain ?_)
 exact thn hA fun us s2 ⟨vs,H2,I2,r2,q2⟩=>hm pins s2 σ H2 x vs v us Q I2 r1 r2 q2
end
end L2
namespace L2
open PySem PySem.Spec PyProof.Rows
def MtM (X:Cx) (id:String) (r:V→List V→Hp→VK→Prop):Prop:=
 ∀(pins:List (Addr × Obj)) (s:Shared) (σ:St) (H:Hp) (x:V) (xs:List V) (v:Value) (us:List Value) (Q:VK),Inv X pins σ H s→RelV x v→Vals xs us→r x xs H Q→
  wpAny (model X.prog X.w) X.A (call (.builtin id) (v :: us)) (EP X pins σ Q) X.xe s
theorem Vals.one:∀{x:V} {us:List Value},Vals [x] us→∃u,us=[u]∧RelV x u
 | _,_,.cons r .nil=>⟨_,rfl,r⟩
theorem Vals.two:∀{x y:V} {us:List Value},Vals [x,y] us→∃u v,us=[u,v]∧RelV x u∧RelV y v
 | _,_,_,.cons r (.cons q .nil)=>⟨_,_,rfl,r,q⟩
theorem Vals.zero:∀{us:List Value},Vals [] us→us=[]
 | _,.nil=>rfl
theorem Vals.dropLast {xs:List V} {us:List Value} (h:Vals xs us):Vals xs.dropLast us.dropLast:=by
 induction h with
 | nil=>exact .nil
 | cons r t ih=>
  cases t with
  | nil=>exact .nil
  | cons q t'=>exact .cons r ih
theorem Vals.eraseIdx:∀{xs:List V} {us:List Value} (i:Nat),Vals xs us→Vals (xs.eraseIdx i) (us.eraseIdx i)
 | _,_,_,.nil=>.nil
 | _,_,0,.cons _ t=>t
 | _,_,i+1,.cons r t=>.cons r (Vals.eraseIdx i t)
theorem Vals.rep {xs:List V} {us:List Value} (h:Vals xs us):∀k:Nat,Vals (List.replicate k xs).flatten (List.replicate k us).flatten
 | 0=>.nil
 | k+1=>by
  rw [List.replicate_succ,List.replicate_succ,List.flatten_cons,List.flatten_cons]
  exact Vals.append h (Vals.rep h k)
theorem z21 {α:Type} (l:List α):l.eraseIdx (l.length - 1)=l.dropLast:=by
 induction l with
 | nil=>rfl
 | cons a r ih=>
  cases r with
  | nil=>rfl
  | cons b r=>
   have e:(a :: b :: r).length - 1=((b :: r).length - 1)+1:=by
    have h1:(a :: b :: r).length=r.length+2:=rfl
    have h2:(b :: r).length=r.length+1:=rfl
    lia
   rw [e,List.eraseIdx_cons_succ,ih]
   all_goals rfl
theorem JF {α:Type}:∀(l:List α) (i:Nat),(l.eraseIdx i).length≤l.length
 | [],_=>ke _
 | _ :: _,0=>Nat.le_succ _
 | _ :: r,i+1=>Nat.succ_le_succ (JF r i)
theorem JR (its:List Value):∀(k:Nat) (acc:List Value),
  List.foldl (fun x1 x2=>x1++x2) acc.toArray (List.replicate k its.toArray)=(acc++(List.replicate k its).flatten).toArray
 | 0,acc=>by simp
 | k+1,acc=>by
  have e:acc.toArray++its.toArray=(acc++its).toArray:=by simp
  have e2:(acc++its)++(List.replicate k its).flatten=acc++(List.replicate (k+1) its).flatten:=by
   rw [List.replicate_succ,List.flatten_cons,kW]
  rw [←e2,←JR its k (acc++its),←e,List.replicate_succ,List.foldl_cons]
section
variable {X:Cx} {pins:List (Addr × Obj)} {σ:St} {H:Hp} {s:Shared} {l b:Addr} {xs ys zs:List V}
theorem Inv.lset {its its':List Value} {n:Nat} {f:Array Value→Array Value} {t':Nat} (I:Inv X pins σ H s) (hH:H l=some (.lst xs))
  (e:s.heap.get? l=some { cls:=.type "list",data:=.seq its.toArray n }) (hf:f its.toArray=its'.toArray) (hv:Vals ys its') (hz:ys.length≤sizeLine):
  Inv X pins σ (upd H l (.lst ys)) { s with heap:=s.heap.update l (Obj.mapSeq f),toks:=t' }:=by
 have q:=PySem.IsL.update e f
 rw [hf] at q
 refine I.write (x:=l) (e:=l) (by rw [hH];exact trivial) (.inl rfl) (fun b' u hb hu=>(Heap.get?_update_other s.heap (Obj.mapSeq f) (Ne.symm hb)).trans hu) ⟨_,q⟩ ?_
 exact ⟨hz,its',_,hv,q⟩
theorem Inv.lnew {its:List Value} {t':Nat} (I:Inv X pins σ H s) (hv:Vals ys its) (hz:ys.length≤sizeLine):
  Inv X pins σ (upd H s.heap.objs.size (.lst ys)) { s with heap:=s.heap.push { cls:=.type "list",data:=.seq its.toArray },toks:=t' }:=
 I.laid (fun _ _ q=>Heap.get?_push_of_some _ q) (ke _) ⟨hz,its,0,hv,Heap.get?_push_size _ rfl⟩
theorem Inv.fresh (I:Inv X pins σ H s):H s.heap.objs.size=none:=I.hok.fresh (ke _)
theorem Inv.lstM (I:Inv X pins σ H s) (hH:H l=some (.lst xs)):xs.length≤sizeLine∧∃(its:List Value) (n:Nat),Vals xs its∧xs.length=its.length∧s.heap.get? l=some { cls:=.type "list",data:=.seq its.toArray n }:=by
 obtain ⟨z,its,n,r,e⟩:=I.hok l _ hH
 exact ⟨z,its,n,r,r.length,e⟩
theorem z17 {n:Nat} (h:n≤sizeLine):Builtin.List.listTooLong n=false:=by
 unfold Builtin.List.listTooLong
 exact kh (by lia)
end
section
variable {X:Cx}
def z0o:V→List V→Hp→VK→Prop:=fun x vs H Q=>∃l xs y,x=.ref l∧vs=[y]∧H l=some (.lst xs)∧xs.length < sizeLine∧Q .non (upd H l (.lst (xs++[y])))
theorem Z3:MtM X "list.append" z0o:=by
 intro pins s σ H x vs v us Q I rx rv h
 obtain ⟨l,xs,y,rfl,rfl,hH,hz,q⟩:=h
 cases rx
 obtain ⟨u,rfl,ru⟩:=rv.one
 obtain ⟨z,its,n,r,hl,e⟩:=I.lstM hH
 refine call_meets F.slot_list_append ⟨_,e,rfl⟩ F.entry_list_append (F.args_list_append_2 _ _) (PySem.list_append l its.toArray n u (by rw [kE];lia)) ⟨e,?_⟩
 refine ⟨.non,_,I.lset (its':=its++[u]) hH e (by simp) (r.append (.cons ru .nil)) ?_,rfl,q⟩
 rw [kl,kF]
 lia
def z6z:V→List V→Hp→VK→Prop:=fun x vs H Q=>∃l b xs zs,x=.ref l∧vs=[.ref b]∧H l=some (.lst xs)∧H b=some (.lst zs)∧xs.length+zs.length≤sizeLine∧Q .non (upd H l (.lst (xs++zs)))
theorem z3f:MtM X "list.extend" z6z:=by
 intro pins s σ H x vs v us Q I rx rv h
 obtain ⟨l,b,xs,zs,rfl,rfl,hH,hB,hz,q⟩:=h
 cases rx
 obtain ⟨u,rfl,ru⟩:=rv.one
 cases ru
 obtain ⟨z,its,n,r,hl,e⟩:=I.lstM hH
 obtain ⟨z2,its2,n2,r2,hl2,e2⟩:=I.lstM hB
 have hsz:its.toArray.size+its2.toArray.size≤sizeLine:=by rw [kE,kE];lia
 have hlong:¬(!its.toArray.isEmpty&&Builtin.List.listTooLong (its.toArray.size+its2.toArray.size))=true:=by
  rw [z17 hsz,Bool.and_false]
  exact ka
 refine call_meets F.slot_list_extend ⟨_,e,rfl⟩ F.entry_list_extend (F.args_list_extend_2 _ _)
  (AutoSeq1.list_extend_list_list_0 l its.toArray n b its2.toArray n2 hlong (by rw [kE];lia) (by lia)) ⟨e,e2,?_⟩
 refine ⟨.non,_,I.lset (its':=its++its2) hH e (by simp) (r.append r2) ?_,rfl,q⟩
 rw [kl]
 lia
def rPop:V→List V→Hp→VK→Prop:=fun x vs H Q=>∃l xs y,x=.ref l∧vs=[]∧H l=some (.lst xs)∧xs[xs.length - 1]?=some y∧Q y (upd H l (.lst xs.dropLast))
theorem z8d:MtM X "list.pop" rPop:=by
 intro pins s σ H x vs v us Q I rx rv h
 obtain ⟨l,xs,y,rfl,rfl,hH,hy,q⟩:=h
 cases rx
 have hus:=rv.zero
 subst hus
 obtain ⟨z,its,n,r,hl,e⟩:=I.lstM hH
 obtain ⟨u,hu,ru⟩:=r.get hy
 have hy':its.toArray[its.toArray.size - 1]?=some u:=by
  show its.toArray[its.length - 1]?=some u
  rw [←Array.getElem?_toList,←hl]
  exact hu
 refine call_meets F.slot_list_pop ⟨_,e,rfl⟩ F.entry_list_pop (F.args_list_pop_1 _) (MeetsSeq.list_pop_last l its.toArray n u hy' (by rw [kE];lia)) ⟨e,?_⟩
 refine ⟨y,_,I.lset (its':=its.dropLast) hH e ?_ r.dropLast ?_,ru,q⟩
 ·show its.toArray.eraseIdxIfInBounds (its.toArray.size - 1)=its.dropLast.toArray
  rw [kE,List.eraseIdxIfInBounds_toArray,z21]
 ·rw [List.length_dropLast]
  lia
def z7X:V→List V→Hp→VK→Prop:=fun x vs H Q=>∃l xs i k y,x=.ref l∧vs=[.int i]∧H l=some (.lst xs)∧-(2 ^ 63)≤i∧i < 2 ^ 63∧seqIndex? i xs.length=some k∧xs[k]?=some y∧Q y (upd H l (.lst (xs.eraseIdx k)))
theorem z4D:MtM X "list.pop" z7X:=by
 intro pins s σ H x vs v us Q I rx rv h
 obtain ⟨l,xs,i,k,y,rfl,rfl,hH,h1,h2,hk,hy,q⟩:=h
 cases rx
 obtain ⟨u,rfl,ru⟩:=rv.one
 obtain ⟨t,rfl⟩:=ru
 obtain ⟨z,its,n,r,hl,e⟩:=I.lstM hH
 obtain ⟨w,hw,rw'⟩:=r.get hy
 refine call_meets F.slot_list_pop ⟨_,e,rfl⟩ F.entry_list_pop (F.args_list_pop_2 _ _)
  (MeetsSeq.list_pop_at l its.toArray n i t k w (fitsIndex_both h1 h2) (by rw [kE,←hl];exact hk) (by rw [←Array.getElem?_toList];exact hw) (by rw [kE];lia)) ⟨e,?_⟩
 refine ⟨y,_,I.lset (its':=its.eraseIdx k) hH e ?_ (r.eraseIdx k) ?_,rw',q⟩
 ·show its.toArray.eraseIdxIfInBounds k=(its.eraseIdx k).toArray
  rw [List.eraseIdxIfInBounds_toArray]
 ·have:=JF xs k
  lia
def rCat:R2:=fun x y H Q=>∃l b xs zs,x=.ref l∧y=.ref b∧H l=some (.lst xs)∧H b=some (.lst zs)∧xs.length+zs.length≤sizeLine∧∀p,H p=none→Q (.ref p) (upd H p (.lst (xs++zs)))
theorem z15:OpR X (binaryOp .Add) rCat:=by
 intro pins s σ H x y v u Q I rx ry h
 obtain ⟨l,b,xs,zs,rfl,rfl,hH,hB,hz,q⟩:=h
 cases rx
 cases ry
 obtain ⟨z,its,n,r,hl,e⟩:=I.lstM hH
 obtain ⟨z2,its2,n2,r2,hl2,e2⟩:=I.lstM hB
 refine PySem.P.add_list e e2 ?_ (by rw [kE,kE];lia)
 have ea:its.toArray++its2.toArray=(its++its2).toArray:=by simp
 rw [ea]
 exact ⟨.ref _,_,I.lnew (t':=s.toks) (r.append r2) (by rw [kl];lia),rfl,q _ I.fresh⟩
def rRep:R2:=fun x y H Q=>∃l k xs,x=.ref l∧y=.int k∧H l=some (.lst xs)∧-(2 ^ 63)≤k∧k < 2 ^ 63∧xs.length * k.toNat≤sizeLine∧
 ∀p,H p=none→Q (.ref p) (upd H p (.lst (List.replicate k.toNat xs).flatten))
theorem z6J {α:Type} (xs:List α) (k:Nat):(List.replicate k xs).flatten.length=k * xs.length:=by
 induction k with
 | zero=>simp
 | succ k ih=>rw [List.replicate_succ,List.flatten_cons,kl,ih,Nat.succ_mul,Nat.add_comm]
theorem z87:OpR X (binaryOp .Mult) rRep:=by
 intro pins s σ H x y v u Q I rx ry h
 obtain ⟨l,k,xs,rfl,rfl,hH,h1,h2,hz,q⟩:=h
 cases rx
 obtain ⟨t,rfl⟩:=ry
 obtain ⟨z,its,n,r,hl,e⟩:=I.lstM hH
 have hlen:its.toArray.size * k.toNat≤sizeLine:=by rw [kE,←hl];exact hz
 have hcap:¬its.toArray.size * k.toNat > (2 ^ 63 - 1) / 8:=by
  have:(sizeLine:Nat)≤(2 ^ 63 - 1) / 8:=by decide
  lia
 have hfit:¬(!Builtin.List.listFitsIndex k)=true:=by
  rw [fitsIndex_both h1 h2]
  exact ka
 have hlong:¬Builtin.List.listTooLong (its.toArray.size * k.toNat)=true:=by
  rw [z17 hlen]
  exact ka
 have hnew:List.foldl (fun x1 x2=>x1++x2) #[] (List.replicate (if its.toArray.isEmpty=true then 0 else k.toNat) its.toArray)=(List.replicate k.toNat its).flatten.toArray:=by
  have f0:∀m:Nat,List.foldl (fun x1 x2=>x1++x2) #[] (List.replicate m its.toArray)=(List.replicate m its).flatten.toArray:=fun m=>by
   have:=JR its m []
   rw [List.nil_append] at this
   exact this
  rw [f0]
  cases its with
  | nil=>simp
  | cons a r'=>rw [kz (by simp)]
 refine wpAny_binaryOp_repeat_ref (T:="list") (U:="int") (by decide) ⟨_,e,rfl⟩ (fun s'=>typeIs_int s' k t) noFill_list_mul F.fills_int_mul F.slot_int_rmul repeat_list F.slot_int_index.lookup
  (call_meets F.slot_int_rmul (typeIs_int s k t) F.entry_int_rmul (F.args_int_rmul_2 _ _) (int___rmul___int_list k t l its.toArray n)
   ⟨e,rfl,⟨_,e,rfl⟩,call_meets F.slot_list_mul ⟨_,e,rfl⟩ F.entry_list_mul (F.args_list_mul_2 _ _) (AutoListH.list___mul___list_int_3 l its.toArray n k t hfit hcap hlong) ⟨e,?_⟩⟩)
 rw [hnew]
 exact ⟨.ref _,_,I.lnew (t':=s.toks) (r.rep k.toNat) (by rw [z6J,Nat.mul_comm];exact hz),rfl,q _ I.fresh⟩
end
section
variable {prog:Program} {w:World} {A:Around} {E:Value→Shared→Prop} {s:Shared}
set_option maxRecDepth 100000 in
end
section
variable {X:Cx}
end
end L2
namespace L2
open PySem PySem.Spec PyProof.Rows
section
variable {κ:Type} [DecidableEq κ]
noncomputable def valV (kvs:List (κ × V)) (k:κ):Option V:=(kvs.find? fun kv=>decide (kv.1=k)).map (·.2)
noncomputable def putK (kvs:List (κ × V)) (k:κ) (v:V):List (κ × V):=
 if (kvs.any fun kv=>decide (kv.1=k))=true then kvs.map (fun kv=>if kv.1=k then (kv.1,v) else kv) else kvs++[(k,v)]
noncomputable def z22 (kvs:List (κ × V)) (k:κ):List (κ × V):=kvs.filter fun kv=>decide (kv.1≠k)
theorem qr {p:κ × V} {r:List (κ × V)} {k:κ} (e:p.1=k):valV (p :: r) k=some p.2:=by simp [valV,List.find?_cons,e]
theorem qt {p:κ × V} {r:List (κ × V)} {k:κ} (e:¬p.1=k):valV (p :: r) k=valV r k:=by simp [valV,List.find?_cons,e]
theorem ZK (k:κ):∀kvs:List (κ × V),(kvs.any fun kv=>decide (kv.1=k))=(valV kvs k).isSome
 | []=>rfl
 | p :: r=>by
  rw [List.any_cons]
  by_cases e:p.1=k
  ·simp only [qr e,ki e,Bool.true_or,Option.isSome_some]
  ·rw [qt e,kh e,Bool.false_or];exact ZK k r
theorem z0N (k j:κ) (y:V):∀kvs:List (κ × V),valV (kvs.map fun kv=>if kv.1=k then (kv.1,y) else kv) j=(valV kvs j).map fun x=>if j=k then y else x
 | []=>rfl
 | p :: r=>by
  have ih:=z0N k j y r
  rw [kS]
  by_cases h:p.1=k
  ·rw [kA h]
   by_cases e:p.1=j
   ·rw [qr (p:=(p.1,y)) e,qr e,Option.map_some,kA (e.symm.trans h)]
   ·rw [qt (p:=(p.1,y)) e,qt e,ih]
  ·rw [kz h]
   by_cases e:p.1=j
   ·rw [qr (p:=p) e,qr e,Option.map_some,kz (fun z=>h (e.trans z))]
   ·rw [qt (p:=p) e,qt e,ih]
theorem Jj (k j:κ) (y:V):∀kvs:List (κ × V),valV kvs k=none→valV (kvs++[(k,y)]) j=if j=k then some y else valV kvs j
 | [],_=>by
  by_cases e:k=j
  ·rw [kA e.symm];exact qr (p:=(k,y)) e
  ·rw [kz (fun z=>e z.symm)];exact qt (p:=(k,y)) e
 | p :: r,hn=>by
  rw [List.cons_append]
  have hk:¬p.1=k:=fun z=>by rw [qr z] at hn;cases hn
  rw [qt hk] at hn
  have ih:=Jj k j y r hn
  by_cases e:p.1=j
  ·rw [qr e,qr e,kz (fun z=>hk (e.trans z))]
  ·rw [qt e,qt e,ih]
theorem QS (kvs:List (κ × V)) (k j:κ) (y:V):valV (putK kvs k y) j=if j=k then some y else valV kvs j:=by
 unfold putK
 by_cases a:(kvs.any fun kv=>decide (kv.1=k))=true
 ·rw [kA a,z0N]
  rw [ZK] at a
  by_cases e:j=k
  ·obtain ⟨x,hx⟩:=Option.isSome_iff_exists.mp a
   rw [kA e,e,hx,Option.map_some,kA rfl]
  ·rw [kz e]
   cases valV kvs j with
   | none=>rfl
   | some x=>rw [Option.map_some,kz e]
 ·rw [kz a]
  refine Jj k j y kvs ?_
  rw [ZK] at a
  cases q:valV kvs k with
  | none=>rfl
  | some x=>rw [q] at a;exact (a rfl).elim
theorem qA (kvs:List (κ × V)) (k:κ) (v:V):(putK kvs k v).length≤kvs.length+1:=by
 unfold putK
 split
 ·rw [kj];lia
 ·rw [kl,kO,List.length_nil];lia
theorem RelO.isSome_eq {o:Option V} {u:Option Value} (r:RelO o u):o.isSome=u.isSome:=by
 cases o with
 | none=>cases u with
  | none=>rfl
  | some _=>exact (show False from r).elim
 | some _=>cases u with
  | none=>exact (show False from r).elim
  | some _=>rfl
theorem RelO.getD {o:Option V} {u:Option Value} {d:V} {d':Value} (r:RelO o u) (rd:RelV d d'):RelV (o.getD d) (u.getD d'):=by
 cases o with
 | none=>cases u with
  | none=>exact rd
  | some _=>exact (show False from r).elim
 | some _=>cases u with
  | none=>exact (show False from r).elim
  | some _=>exact r
theorem KV.val {kvs:List (κ × V)} {vs:List (κ × Value)} (r:KV kvs vs) (k:κ):RelO (valV kvs k) (valueAt vs k):=by
 unfold KV at r
 induction r with
 | nil=>exact True.intro
 | @cons p q ps qs h t ih=>
  obtain ⟨h1,h2⟩:=h
  by_cases e:p.1=k
  ·have e':q.1=k:=h1.symm.trans e
   have b:valueAt (q :: qs) k=some q.2:=by simp [valueAt,List.find?_cons,e']
   rw [qr e,b];exact h2
  ·have e':¬q.1=k:=fun z=>e (h1.trans z)
   have b:valueAt (q :: qs) k=valueAt qs k:=by simp [valueAt,List.find?_cons,e']
   rw [qt e,b];exact ih
theorem KV.any {kvs:List (κ × V)} {vs:List (κ × Value)} (r:KV kvs vs) (k:κ):(kvs.any fun kv=>decide (kv.1=k))=vs.any fun kv=>decide (kv.1=k):=by
 unfold KV at r
 induction r with
 | nil=>rfl
 | cons h t ih=>rw [List.any_cons,List.any_cons,ih,h.1]
theorem KV.repl {kvs:List (κ × V)} {vs:List (κ × Value)} (r:KV kvs vs) (k:κ) {y:V} {u:Value} (ry:RelV y u):
  KV (kvs.map fun kv=>if kv.1=k then (kv.1,y) else kv) (vs.map fun kv=>if kv.1=k then (kv.1,u) else kv):=by
 unfold KV at r ⊢
 induction r with
 | nil=>exact .nil
 | @cons p q ps qs h t ih=>
  rw [kS,kS]
  refine .cons ?_ ih
  obtain ⟨h1,h2⟩:=h
  by_cases e:p.1=k
  ·rw [kA e,kA (h1.symm.trans e)];exact ⟨h1,ry⟩
  ·rw [kz e,kz (fun z=>e (h1.trans z))];exact ⟨h1,h2⟩
theorem KV.put {kvs:List (κ × V)} {vs:List (κ × Value)} (r:KV kvs vs) (k:κ) {y:V} {u:Value} (ry:RelV y u):KV (putK kvs k y) (stored vs k u):=by
 unfold putK stored
 rw [r.any k]
 by_cases e:(vs.any fun kv=>decide (kv.1=k))=true
 ·rw [kA e,kA e];exact r.repl k ry
 ·rw [kz e,kz e];exact Paired.snoc r ⟨rfl,ry⟩
theorem KV.drop {kvs:List (κ × V)} {vs:List (κ × Value)} (r:KV kvs vs) (k:κ):KV (z22 kvs k) (without vs k):=by
 unfold KV at r ⊢
 unfold z22 without
 induction r with
 | nil=>exact .nil
 | @cons p q ps qs h t ih=>
  obtain ⟨h1,h2⟩:=h
  rw [List.filter_cons,List.filter_cons]
  by_cases e:p.1=k
  ·have a:¬decide (p.1≠k)=true:=by simp [e]
   have b:¬decide (q.1≠k)=true:=by simp [h1.symm.trans e]
   rw [kz a,kz b];exact ih
  ·have e':¬q.1=k:=fun z=>e (h1.trans z)
   have a:decide (p.1≠k)=true:=by simp [e]
   have b:decide (q.1≠k)=true:=by simp [e']
   rw [kA a,kA b];exact .cons ⟨h1,h2⟩ ih
theorem KV.length {kvs:List (κ × V)} {vs:List (κ × Value)} (r:KV kvs vs):kvs.length=vs.length:=Paired.length r
theorem z5e (kvs:List (κ × V)) (k:κ):(z22 kvs k).length≤kvs.length:=List.length_filter_le _ _
end
theorem J8 {P:Program} {w:World} {k:Key} {u:Value} (r:RelV (kV k) u):(zP P w).is k u=true:=by
 cases k with
 | inl i=>obtain ⟨t,e⟩:=(show ∃t,u=Value.int i t from r);subst e;exact z0u P w i t
 | inr x=>obtain ⟨t,e⟩:=(show ∃t,u=Value.str x t from r);subst e;exact z0t P w x t
theorem JI {P:Program} {w:World}:∀{ks:List Key} {us:List Value},Vals (ks.map kV) us→ItemsAre (zP P w) ks us
 | [],_,r=>by rw [List.map_nil] at r;cases r;exact .nil
 | k :: ks,_,r=>by
  rw [kS] at r
  cases r with
  | cons h t=>exact .cons (J8 h) (JI t)
abbrev KT (H:Hp):List (List Key × V)→List (List Key × Addr × Value)→Prop:=Paired fun p q=>p.1=q.1∧H q.2.1=some (.tup (p.1.map kV))∧RelV p.2 q.2.2
theorem KT.val {H:Hp} {kvs:List (List Key × V)} {xs:List (List Key × Addr × Value)} (r:KT H kvs xs) (k:List Key):RelO (valV kvs k) ((atKey xs k).map (·.2)):=by
 induction r with
 | nil=>exact True.intro
 | @cons p q ps qs h t ih=>
  obtain ⟨h1,_,h2⟩:=h
  by_cases e:p.1=k
  ·have e':q.1=k:=h1.symm.trans e
   have b:atKey (q :: qs) k=some q.2:=by simp [atKey,List.find?_cons,e']
   rw [qr e,b];exact h2
  ·have e':¬q.1=k:=fun z=>e (h1.trans z)
   have b:atKey (q :: qs) k=atKey qs k:=by simp [atKey,List.find?_cons,e']
   rw [qt e,b];exact ih
theorem KT.repl {H:Hp} {kvs:List (List Key × V)} {xs:List (List Key × Addr × Value)} (r:KT H kvs xs) (k:List Key) {y:V} {u:Value} (ry:RelV y u):
  KT H (kvs.map fun kv=>if kv.1=k then (kv.1,y) else kv) (xs.map (putAt k u)):=by
 induction r with
 | nil=>exact .nil
 | @cons p q ps qs h t ih=>
  rw [kS,kS]
  refine .cons ?_ ih
  obtain ⟨h1,h2,h3⟩:=h
  unfold putAt
  by_cases e:p.1=k
  ·rw [kA e,kA (h1.symm.trans e)];exact ⟨h1,h2,ry⟩
  ·rw [kz e,kz (fun z=>e (h1.trans z))];exact ⟨h1,h2,h3⟩
theorem KT.put {H:Hp} {kvs:List (List Key × V)} {xs:List (List Key × Addr × Value)} (r:KT H kvs xs) (k:List Key) {b:Addr} {y:V} {u:Value} (hb:H b=some (.tup (k.map kV))) (ry:RelV y u):
  KT H (putK kvs k y) (storedH xs k b u):=by
 have e:(kvs.any fun kv=>decide (kv.1=k))=(atKey xs k).isSome:=by
  rw [ZK,(r.val k).isSome_eq,Option.isSome_map]
 unfold putK storedH
 rw [e]
 by_cases q:(atKey xs k).isSome=true
 ·rw [kA q,kA q];exact r.repl k ry
 ·rw [kz q,kz q];exact Paired.snoc r ⟨rfl,hb,ry⟩
theorem KT.keeps {H H':Hp} {kvs:List (List Key × V)} {xs:List (List Key × Addr × Value)} (r:KT H kvs xs) (ht:∀b ys,H b=some (.tup ys)→H' b=some (.tup ys)):KT H' kvs xs:=
 Paired.mapP r fun _ _ z=>⟨z.1,ht _ _ z.2.1,z.2.2⟩
section
variable {P:Program} {w:World} {H:Hp} {h:Heap} {a:Addr}
theorem z7W {u:HO} (ok:HOk P w H h) (e:Rd H a u):qe P w H h a u:=e.ok ok
theorem Jd {kvs:List (Key × V)} (ok:HOk P w H h) (e:Rd H a (.dK kvs)):kvs.length≤sizeLine∧(a == sysModules)=false∧∃vs,KV kvs vs∧h.DictOf (zP P w) a vs:=
 show qe P w H h a (.dK kvs) from z7W ok e
theorem z3S {kvs:List (Key × V)} (ok:HOk P w H h) (e:H a=some (.dK kvs)):kvs.length≤sizeLine∧(a == sysModules)=false∧∃vs,KV kvs vs∧h.DictOf (zP P w) a vs:=Jd ok (.inl e)
theorem QJ {ks:List Key} (ok:HOk P w H h) (e:H a=some (.tup (ks.map kV))):(tupleKind (zP P w)).is h ks a:=by
 obtain ⟨_,its,r,o,h1,h2,n,h3⟩:=(show qe P w H h a (.tup (ks.map kV)) from ok a _ e)
 exact ⟨o,its.toArray,n,h1,h2,h3,by simpa using JI r⟩
theorem z0I {kvs:List (List Key × V)} (ok:HOk P w H h) (e:Rd H a (.dT kvs)):kvs.length≤sizeLine∧(a == sysModules)=false∧
  ∃xs,KT H kvs xs∧h.DictOfH (tupleKind (zP P w)) a xs:=by
 obtain ⟨z,y,xs,r,o,es,ep,h1,h2,h3,h4,h5⟩:=(show qe P w H h a (.dT kvs) from z7W ok e)
 refine ⟨z,y,xs,r,o,es,ep,h1,h2,h3,h4,fun x hx=>?_,h5⟩
 have all:∀{l:List (List Key × V)} {m:List (List Key × Addr × Value)},KT H l m→∀x∈m,(tupleKind (zP P w)).is h x.1 x.2.1:=by
  intro l m q
  induction q with
  | nil=>intro x hx;exact nomatch hx
  | @cons p q ps qs hq t ih=>
   intro x hx
   rcases kD.mp hx with e | hx
   ·subst e
    exact QJ ok (by rw [←hq.1];exact hq.2.1)
   ·exact ih x hx
 exact all r x hx
theorem z9H {kvs:List (List Key × V)} (ok:HOk P w H h) (e:H a=some (.dT kvs)):kvs.length≤sizeLine∧(a == sysModules)=false∧
  ∃xs,KT H kvs xs∧h.DictOfH (tupleKind (zP P w)) a xs:=z0I ok (.inl e)
end
def DGet (H:Hp) (a:Addr) (y:V) (r:Option V):Prop:=
 (∃kvs k,Rd H a (.dK kvs)∧y=kV k∧r=valV kvs k)∨∃kvs k b,Rd H a (.dT kvs)∧y=.ref b∧H b=some (.tup (k.map kV))∧r=valV kvs k
def DPut (H:Hp) (a:Addr) (y v:V) (H':Hp):Prop:=
 (∃kvs k,H a=some (.dK kvs)∧y=kV k∧kvs.length < sizeLine∧H'=upd H a (.dK (putK kvs k v)))∨
 ∃kvs k b,H a=some (.dT kvs)∧y=.ref b∧H b=some (.tup (k.map kV))∧kvs.length < sizeLine∧H'=upd H a (.dT (putK kvs k v))
theorem DGet.k {H:Hp} {a:Addr} {kvs:List (Key × V)} {k:Key} (e:H a=some (.dK kvs)):DGet H a (kV k) (valV kvs k):=.inl ⟨kvs,k,.inl e,rfl,rfl⟩
theorem DPut.k {H:Hp} {a:Addr} {kvs:List (Key × V)} {k:Key} {v:V} (e:H a=some (.dK kvs)) (hl:kvs.length < sizeLine):DPut H a (kV k) v (upd H a (.dK (putK kvs k v))):=.inl ⟨kvs,k,e,rfl,hl,rfl⟩
section
variable {X:Cx} {pins:List (Addr × Obj)} {σ:St} {H:Hp} {s:Shared} {a:Addr} {y v:V} {u r:Value} {o:Option V} {A:Around} {E:Value→Shared→Prop}
theorem Inv.big (I:Inv X pins σ H s):sysModules < s.heap.objs.size:=by
 have h:mainGlobals < s.heap.objs.size:=(I.mod.glob.keeps I.bk).lt
 exact Nat.lt_trans (by decide) h
theorem z3Y {Q:Value→Shared→Prop} (hu:A.units+1 < cLine) (I:Inv X pins σ H s) (g:DGet H a y (some v)) (ry:RelV y u) (h:∀w' s',Inv X pins σ H s'→RelV v w'→Q w' s'):
  wpAny (model X.prog X.w) A (getItem (.ref a) u) Q E s:=by
 rcases g with ⟨kvs,k,e,ey,l⟩ | ⟨kvs,k,b,e,ey,eb,l⟩
 ·subst ey
  obtain ⟨z,hd,vs,rel,dd⟩:=Jd I.hok e
  obtain ⟨w',hw,rw'⟩:=RelO.some_of (v:=v) (o:=valueAt vs k) (by rw [l];exact rel.val k)
  exact wpAny_getItem_of (J8 ry) dd.mapOf hw (h w' _ (I.tok _) rw')
 ·subst ey
  cases (show u=Value.ref b from ry)
  obtain ⟨z,hd,xs,rel,dd⟩:=z0I I.hok e
  obtain ⟨w',hw,rw'⟩:=RelO.some_of (v:=v) (o:=(atKey xs k).map (·.2)) (by rw [l];exact rel.val k)
  obtain ⟨p,hp,hp2⟩:=Option.map_eq_some_iff.mp hw
  refine wpAny_getItem_heap (tupleKind_room_in1 hu) (QJ I.hok eb) dd hp ?_
  rw [hp2]
  exact h w' _ (I.tok _) rw'
theorem d_in {Q:Value→Shared→Prop} (hu:A.units+1 < cLine) (I:Inv X pins σ H s) (g:DGet H a y o) (ry:RelV y u) (h:∀s',Inv X pins σ H s'→Q (.bool o.isSome) s'):
  wpAny (model X.prog X.w) A (compareOp .In u (.ref a)) Q E s:=by
 rcases g with ⟨kvs,k,e,ey,l⟩ | ⟨kvs,k,b,e,ey,eb,l⟩
 ·subst ey
  obtain ⟨z,hd,vs,rel,dd⟩:=Jd I.hok e
  refine wpAny_in_of (J8 ry) hd dd.mapOf ?_
  rw [←(rel.val k).isSome_eq,←l]
  exact h _ (I.tok _)
 ·subst ey
  cases (show u=Value.ref b from ry)
  obtain ⟨z,hd,xs,rel,dd⟩:=z0I I.hok e
  refine wpAny_in_heap (tupleKind_room_in1 hu) (QJ I.hok eb) hd dd ?_
  have q:=(rel.val k).isSome_eq
  rw [Option.isSome_map] at q
  rw [←q,←l]
  exact h _ (I.tok _)
theorem z7n {Q:Value→Shared→Prop} (hu:A.units+1 < cLine) (I:Inv X pins σ H s) (g:DGet H a y o) (ry:RelV y u) (h:∀s',Inv X pins σ H s'→Q (.bool (!o.isSome)) s'):
  wpAny (model X.prog X.w) A (compareOp .NotIn u (.ref a)) Q E s:=by
 rcases g with ⟨kvs,k,e,ey,l⟩ | ⟨kvs,k,b,e,ey,eb,l⟩
 ·subst ey
  obtain ⟨z,hd,vs,rel,dd⟩:=Jd I.hok e
  refine wpAny_notIn_of (J8 ry) hd dd.mapOf ?_
  rw [←(rel.val k).isSome_eq,←l]
  exact h _ (I.tok _)
 ·subst ey
  cases (show u=Value.ref b from ry)
  obtain ⟨z,hd,xs,rel,dd⟩:=z0I I.hok e
  refine wpAny_notIn_heap (tupleKind_room_in1 hu) (QJ I.hok eb) hd dd ?_
  have q:=(rel.val k).isSome_eq
  rw [Option.isSome_map] at q
  rw [←q,←l]
  exact h _ (I.tok _)
theorem Qk {h':Heap} {t':Nat} {ob:HO} (I:Inv X pins σ H s) (mu:Mut (H a)) (hs:Heap.SameBut a s.heap h') (he:∃q,h'.get? a=some q) (new:qe X.prog X.w (upd H a ob) h' a ob):
  Inv X pins σ (upd H a ob) { s with heap:=h',toks:=t' }:=
 I.write (x:=a) (e:=a) mu (.inl rfl) (fun b q hb z=>(hs.2 b hb).trans z) he new
theorem JV {P:Program} {w:World} {H':Hp} {h':Heap} {kvs:List (Key × V)} {vs:List (Key × Value)} (z:kvs.length≤sizeLine) (hd:(a == sysModules)=false) (rel:KV kvs vs) (dd:h'.DictOf (zP P w) a vs):
  qe P w H' h' a (.dK kvs):=⟨z,hd,vs,rel,dd⟩
theorem z3X {H':Hp} {Q:Unit→Shared→Prop} (hu:A.units+1 < cLine) (I:Inv X pins σ H s) (g:DPut H a y v H') (ry:RelV y u) (rv:RelV v r) (h:∀s',Inv X pins σ H' s'→Q () s'):
  wpAny (model X.prog X.w) A (setItem (.ref a) u r) Q E s:=by
 rcases g with ⟨kvs,k,e,ey,l,eH⟩ | ⟨kvs,k,b,e,ey,eb,l,eH⟩
 ·subst ey eH
  obtain ⟨z,hd,vs,rel,dd⟩:=z3S I.hok e
  have hz:vs.length≤sizeLine:=by rw [←rel.length];exact z
  have hl:(putK kvs k v).length≤sizeLine:=by have:=qA kvs k v;lia
  refine wpAny_setItem_pairs (hsz:=hz) (J8 ry) dd fun h' dd' hs=>h _ ?_
  have he:∃q,h'.get? a=some q:=let ⟨q,_,_,hq,_⟩:=dd';⟨q,hq⟩
  exact Qk I (by rw [e];exact True.intro) hs he (JV hl hd (rel.put k rv) dd')
 ·subst ey eH
  cases (show u=Value.ref b from ry)
  obtain ⟨z,hd,xs,rel,dd⟩:=z9H I.hok e
  have hz:xs.length≤sizeLine:=by rw [←Paired.length rel];exact z
  have hl:(putK kvs k v).length≤sizeLine:=by have:=qA kvs k v;lia
  refine wpAny_setItem_heap (hsz:=hz) (tupleKind_room_in1 hu) (QJ I.hok eb) dd fun h' dd' hs=>h _ ?_
  obtain ⟨q,es,ep,hq,h2,h3,h4,_,h5⟩:=dd'
  refine Qk I (by rw [e];exact True.intro) hs ⟨q,hq⟩ ⟨hl,hd,_,(rel.put k eb rv).keeps fun c ys ec=>?_,q,es,ep,hq,h2,h3,h4,h5⟩
  rw [zd (zA ec e (fun z=>nomatch z))]
  exact ec
end
section
variable {X:Cx} {pins:List (Addr × Obj)} {σ:St} {H:Hp} {s:Shared} {a:Addr} {kvs:List (Key × V)} {k:Key} {u:Value} {A:Around} {E:Value→Shared→Prop}
theorem z9I {v:V} {more:List Value} {Q:Value→Shared→Prop} (I:Inv X pins σ H s) (e:H a=some (.dK kvs)) (ry:RelV (kV k) u) (l:valV kvs k=some v) (hm:more=[]∨∃x,more=[x])
  (h:∀w' s',Inv X pins σ (upd H a (.dK (z22 kvs k))) s'→RelV v w'→Q w' s'):wpAny (model X.prog X.w) A (call (.builtin "dict.pop") (.ref a :: u :: more)) Q E s:=by
 obtain ⟨z,hd,vs,rel,dd⟩:=z3S I.hok e
 obtain ⟨w',hw,rw'⟩:=RelO.some_of (v:=v) (o:=valueAt vs k) (by rw [←l];exact rel.val k)
 have hp:(keyPart u).isSome=true:=by
  cases k with
  | inl i=>obtain ⟨t,q⟩:=(show ∃t,u=Value.int i t from ry);subst q;rfl
  | inr x=>obtain ⟨t,q⟩:=(show ∃t,u=Value.str x t from ry);subst q;rfl
 have ha:argsOk "dict.pop" ⟨.ref a :: u :: more,[]⟩:=by
  rcases hm with q | ⟨x,q⟩
  ·subst q;exact PySem.F.args_dict_pop_2 _ _
  ·subst q;exact PySem.F.args_dict_pop_3 _ _ _
 refine call_meetsIn PySem.F.slot_dict_pop dd.typeIs PySem.F.entry_dict_pop ha (meets_dict_pop_there (zP X.prog X.w) a (J8 ry) more hm hp)
  ⟨vs,w',dd,by rw [←rel.length];exact z,hw,fun h' dd' hs=>h w' _ ?_ rw'⟩
 have he:∃q,h'.get? a=some q:=let ⟨q,_,_,hq,_⟩:=dd';⟨q,hq⟩
 exact Qk I (by rw [e];exact True.intro) hs he (JV (ku (z5e kvs k) z) hd (rel.drop k) dd')
theorem z9J {Q:Value→Shared→Prop} (I:Inv X pins σ H s) (e:Rd H a (.dK kvs)) (h:∀t s',Inv X pins σ H s'→Q (.int kvs.length t) s'):wpAny (model X.prog X.w) A (call (.builtin "len") [.ref a]) Q E s:=by
 obtain ⟨z,hd,vs,rel,dd⟩:=Jd I.hok e
 refine call_len_dict hd dd (by rw [←rel.length];rw [sizeLine_eq] at z;lia) ?_
 rw [←rel.length]
 exact h _ _ (I.tok _)
end
def NoSl (i:Expr):Prop:=∀ov iv,subscripted i false ov iv=operate [ov,iv] (getItem ov iv)
theorem z2e {prog:Program} {w:World} {A:Around} {E:Value→Shared→Prop} {s:Shared} {env:Env} {value slice:Expr} {pos:Pos} {T id:String} {Q:Value→Shared→Prop}
  (hl:typeLookup (.type T) "__getitem__"=pure (some (.builtin id))) (hs:NoSl slice)
  (h:wpAny (model prog w) A (eval value env) (fun o s₁=>wpAny (model prog w) A (eval slice env) (fun i s₂=>s₂.TypeIs o T∧wpAny (model prog w) A (getItem o i) Q E s₂) E s₁) E s):
  wpAny (model prog w) A (eval (.Subscript value slice pos) env) Q E s:=by
 refine Subscript_ (wpAny_mono h (fun o s₁ h₁=>wpAny_mono h₁ (fun i s₂ h₂=>?_) fun _ _ x=>x) fun _ _ x=>x)
 obtain ⟨hT,h₂⟩:=h₂
 unfold subscriptTail
 refine wpAny_bind ?_
 rw [getitemInPython_of_ne hT.not_modules]
 refine wpAny_bind (wpAny_specialOf hT hl ?_)
 have fin:wpAny (model prog w) A (subscripted slice false o i) (fun r s₃=>wpAny (model prog w) A (letTemporaryGo value o r >>= fun _=>pure r) Q E s₃) E s₂:=by
  rw [hs o i]
  exact wpAny_operating (wpAny_mono h₂ (fun r s₃ h₃=>wpAny_bind (wpAny_letTemporaryGo (wpAny_pure h₃))) fun _ _ x=>x)
 first
  | exact wpAny_pure (wpAny_bind fin)
  | exact wpAny_bind (wpAny_pure (wpAny_bind fin))
  | exact wpAny_bind fin
theorem z0J {X:Cx} {pins:List (Addr × Obj)} {σ:St} {H:Hp} {s:Shared} {a:Addr} {y:V} {o:Option V} (I:Inv X pins σ H s) (g:DGet H a y o):s.TypeIs (.ref a) "dict":=by
 rcases g with ⟨kvs,k,e,_,_⟩ | ⟨kvs,k,b,e,_,_,_⟩
 ·obtain ⟨_,_,vs,_,dd⟩:=Jd I.hok e
  exact dd.typeIs
 ·obtain ⟨_,_,xs,_,dd⟩:=z0I I.hok e
  exact dd.typeIs
def z8Y (td ty:TE):TE:=fun σ H Q=>td σ H fun x H1=>ty σ H1 fun y H2=>∃a v,x=.ref a∧DGet H2 a y (some v)∧Q v H2
def tDIn (ty td:TE):TE:=fun σ H Q=>ty σ H fun y H1=>td σ H1 fun x H2=>∃a o,x=.ref a∧DGet H2 a y o∧Q (.bl o.isSome) H2
def z6h (ty td:TE):TE:=fun σ H Q=>ty σ H fun y H1=>td σ H1 fun x H2=>∃a o,x=.ref a∧DGet H2 a y o∧Q (.bl (!o.isSome)) H2
def z9i (td ty tv:TE):TS:=fun D σ H=>tv σ H fun v H1=>td σ H1 fun x H2=>ty σ H2 fun y H3=>∃a H4,x=.ref a∧DPut H3 a y v H4∧D.nx σ H4
section
variable {X:Cx} {o i e value:Expr} {pos pos' tpos:Pos} {td ty tv:TE}
theorem Zq (hu:X.A.units+1 < cLine) (ho:PE X o td) (hi:PE X i ty) (hs:NoSl i):PE X (.Subscript o i pos) (z8Y td ty):=by
 intro pins s σ H Q I h
 refine z2e PySem.F.slot_dict_getitem.lookup hs (thn (ho pins s σ H _ I h) fun u s1 ⟨x,H1,I1,rx,q1⟩=>thn (hi pins s1 σ H1 _ I1 q1) fun iv s2 zz=>?_)
 obtain ⟨y,H2,I2,ry,a,v,ex,g,q2⟩:=zz
 subst ex
 obtain rfl:u=Value.ref a:=rx
 exact ⟨z0J I2 g,z3Y hu I2 g ry fun w' s3 I3 rw'=>⟨v,H2,I3,rw',q2⟩⟩
theorem z86 (hu:X.A.units+1 < cLine) (hi:PE X i ty) (ho:PE X o td):PC X .In i o (tDIn ty td):=by
 intro pins s σ H Q I h
 refine thn (hi pins s σ H _ I h) fun iv s1 ⟨y,H1,I1,ry,q1⟩=>thn (ho pins s1 σ H1 _ I1 q1) fun u s2 zz=>?_
 obtain ⟨x,H2,I2,rx,a,ov,ex,g,q2⟩:=zz
 subst ex
 obtain rfl:u=Value.ref a:=rx
 exact d_in hu I2 g ry fun s3 I3=>⟨.bl ov.isSome,H2,I3,rfl,q2⟩
theorem Jy (hu:X.A.units+1 < cLine) (hi:PE X i ty) (ho:PE X o td):PC X .NotIn i o (z6h ty td):=by
 intro pins s σ H Q I h
 refine thn (hi pins s σ H _ I h) fun iv s1 ⟨y,H1,I1,ry,q1⟩=>thn (ho pins s1 σ H1 _ I1 q1) fun u s2 zz=>?_
 obtain ⟨x,H2,I2,rx,a,ov,ex,g,q2⟩:=zz
 subst ex
 obtain rfl:u=Value.ref a:=rx
 exact z7n hu I2 g ry fun s3 I3=>⟨.bl (!ov.isSome),H2,I3,rfl,q2⟩
theorem z0p (hu:X.A.units+1 < cLine) (ho:PE X o td) (hi:PE X i ty) (hv:PE X value tv) (hs:swapsWith value (some (.Subscript o i pos')) pos.line X.env=pure false):
  PS X (.Assign [.Subscript o i pos'] value pos) (z9i td ty tv):=by
 intro pins s σ H D I h
 refine wpAny_Assign_Subscript (thn (hv pins s σ H _ I h) fun r s1 ⟨v,H1,I1,rv,q1⟩=>thn (ho pins s1 σ H1 _ I1 q1) fun u s2 ⟨x,H2,I2,rx,q2⟩=>thn (hi pins s2 σ H2 _ I2 q2) fun iv s3 ⟨y,H3,I3,ry,a,H4,ex,g,q3⟩=>?_) hs
 subst ex
 obtain rfl:u=Value.ref a:=rx
 exact z3X hu I3 g ry rv fun s4 I4=>⟨σ,H4,I4,q3⟩
end
theorem z1i {P:Program} {w:World} {H:Hp} (h:Heap) (hb:sysModules < h.objs.size):qe P w H (h.push { cls:=.type "dict",data:=.dict #[] }) h.objs.size (.dK []):=
 ⟨Nat.zero_le _,beq_eq_false_iff_ne.mpr (Ne.symm (Nat.ne_of_lt hb)),[],.nil,Heap.DictOf.new h⟩
def z7G:TE:=fun _ H Q=>∀p,H p=none→Q (.ref p) (upd H p (.dK []))
section
variable {X:Cx} {pos:Pos}
theorem z10:PE X (.Dict [] [] pos) z7G:=fun pins s σ H Q I h=>
 wpAny_Dict_empty ⟨.ref s.heap.objs.size,_,I.laid (a:=s.heap.objs.size) (o:=.dK []) (t':=s.toks) (fun _ _ q=>Heap.get?_push_of_some _ q) (ke _) (z1i s.heap I.big),rfl,h _ (I.hok.fresh (ke _))⟩
end
def z2c:List (TE × TE)→St→Hp→(List (V × V)→Hp→Prop)→Prop
 | [],_,H,Q=>Q [] H
 | (tk,tv) :: r,σ,H,Q=>tk σ H fun x H1=>tv σ H1 fun y H2=>z2c r σ H2 fun ps H3=>Q ((x,y) :: ps) H3
abbrev VV:List (V × V)→List (Value × Value)→Prop:=Paired fun p q=>RelV p.1 q.1∧RelV p.2 q.2
def PPs (X:Cx) (pos:Pos) (keys:List (Option Expr)) (values:List Expr) (trs:List (TE × TE)):Prop:=
 ∀(pins:List (Addr × Obj)) (s:Shared) (σ:St) (H:Hp) (Q:List (V × V)→Hp→Prop),Inv X pins σ H s→z2c trs σ H Q→
  wpAny (model X.prog X.w) X.A (evalPairs (pairTrees keys values X.env pos)) (fun vs s'=>∃ps H',Inv X pins σ H' s'∧VV ps vs∧Q ps H') X.xe s
theorem z2T {X:Cx} {pos:Pos}:PPs X pos [] [] []:=fun pins s σ H Q I h=>pairTrees_nil_walk ⟨[],H,I,.nil,h⟩
theorem Z0 {X:Cx} {pos:Pos} {k v:Expr} {ks:List (Option Expr)} {vs:List Expr} {tk tv:TE} {trs:List (TE × TE)} (hk:PE X k tk) (hv:PE X v tv) (hr:PPs X pos ks vs trs):
  PPs X pos (some k :: ks) (v :: vs) ((tk,tv) :: trs):=fun pins s σ H Q I h=>
 pairTrees_cons_walk (thn (hk pins s σ H _ I h) fun u s1 ⟨x,H1,I1,rx,q1⟩=>thn (hv pins s1 σ H1 _ I1 q1) fun w2 s2 ⟨y,H2,I2,ry,q2⟩=>
  thn (hr pins s2 σ H2 _ I2 q2) fun ws s3 ⟨ps,H3,I3,rel,q3⟩=>⟨(x,y) :: ps,H3,I3,.cons ⟨rx,ry⟩ rel,q3⟩)
noncomputable def ZB (kvs more:List (Key × V)):List (Key × V):=more.foldl (fun acc kv=>putK acc kv.1 kv.2) kvs
theorem KV.merge:∀{more:List (Key × V)} {rs:List (Key × Value)} {kvs:List (Key × V)} {vs:List (Key × Value)},KV more rs→KV kvs vs→KV (ZB kvs more) (merged vs rs):=by
 intro more rs kvs vs r
 unfold KV at r
 induction r generalizing kvs vs with
 | nil=>intro q;exact q
 | @cons p q ps qs h t ih=>
  intro r0
  have e:KV (putK kvs p.1 p.2) (stored vs q.1 q.2):=by
   have:=r0.put p.1 h.2
   rw [←h.1];exact this
  exact ih e
theorem Z8:∀(more kvs:List (Key × V)),(ZB kvs more).length≤kvs.length+more.length
 | [],kvs=>by show kvs.length≤kvs.length+0;lia
 | p :: r,kvs=>by
  have h1:=Z8 r (putK kvs p.1 p.2)
  have h2:=qA kvs p.1 p.2
  show (ZB (putK kvs p.1 p.2) r).length≤_
  rw [kO];lia
theorem QP {P:Program} {w:World}:∀{kvs:List (Key × V)} {ws:List (Value × Value)},VV (kvs.map fun kv=>(kV kv.1,kv.2)) ws→∃rs,Carries (zP P w) ws rs∧KV kvs rs
 | [],_,r=>by rw [List.map_nil] at r;cases r;exact ⟨[],True.intro,.nil⟩
 | p :: kvs,_,r=>by
  rw [kS] at r
  cases r with
  | @cons a b as bs h t=>
   obtain ⟨rs,c,q⟩:=QP (P:=P) (w:=w) t
   obtain ⟨b1,b2⟩:=b
   exact ⟨(p.1,b2) :: rs,⟨J8 h.1,rfl,c⟩,.cons ⟨rfl,h.2⟩ q⟩
def z8X (trs:List (TE × TE)):TE:=fun σ H Q=>∀p,H p=none→z2c trs σ (upd H p (.dK [])) fun ps H2=>H2 p=some (.dK [])∧∃kvs:List (Key × V),ps=kvs.map (fun kv=>(kV kv.1,kv.2))∧kvs.length≤15∧Q (.ref p) (upd H2 p (.dK (ZB [] kvs)))
theorem z31 {X:Cx} {pos:Pos} {keys:List (Option Expr)} {values:List Expr} {trs:List (TE × TE)} (h:PPs X pos keys values trs) (hall:keys.all (·.isSome)=true) (hl:keys.length=values.length) (h0:keys≠[])
  (h15:keys.length≤15):PE X (.Dict keys values pos) (z8X trs):=by
 intro pins s σ H Q I q
 have hn:=I.hok.fresh (ke s.heap.objs.size)
 have I1:=I.laid (a:=s.heap.objs.size) (o:=.dK []) (h':=s.heap.push { cls:=.type "dict",data:=.dict #[] }) (t':=s.toks) (fun _ _ q=>Heap.get?_push_of_some _ q) (ke _) (z1i s.heap I.big)
 refine wpAny_Dict_walk (knd:=zP X.prog X.w) hall hl h0 h15 (thn (h pins _ σ _ _ I1 (q _ hn)) fun ws s2 zz=>?_)
 obtain ⟨ps,H2,I2,rel,e,kvs,ep,lk,q2⟩:=zz
 subst ep
 obtain ⟨rs,c,rk⟩:=QP (P:=X.prog) (w:=X.w) rel
 obtain ⟨z,hd,vs0,r0,dd⟩:=z3S I2.hok e
 cases r0
 refine ⟨rs,c,dd,fun h' dd' hs=>⟨.ref s.heap.objs.size,_,?_,rfl,q2⟩⟩
 have hz:(ZB [] kvs).length≤sizeLine:=by
  have h1:=Z8 kvs []
  rw [List.length_nil] at h1
  rw [sizeLine_eq];lia
 have he:∃q,h'.get? s.heap.objs.size=some q:=let ⟨q,_,_,hq,_⟩:=dd';⟨q,hq⟩
 exact Qk I2 (by rw [e];exact True.intro) hs he (JV hz hd (rk.merge .nil) dd')
structure M1 (X:Cx) (o:Expr) (m:Str) (apos:Pos) (e:Expr) (cpos:Pos):Prop where
 base:attributeBase o m X.env (eval o X.env)=eval o X.env
 few:((backTo cpos (starEach [e] X.env)).all (fun x=> !x.1)&&(backToKw cpos (keywordEach [] X.env)).all (fun x=>x.1.isSome)
  &&decide (([e]:List Expr).length+([]:List Keyword).length+(if ([]:List Keyword).isEmpty then 0 else 1) < 30))=true
 line:(apos.endLine == cpos.line)=true
 trees:backTo cpos (starEach [e] X.env)=[(false,eval e X.env)]
structure M2 (X:Cx) (o:Expr) (m:Str) (apos:Pos) (e f:Expr) (cpos:Pos):Prop where
 base:attributeBase o m X.env (eval o X.env)=eval o X.env
 few:((backTo cpos (starEach [e,f] X.env)).all (fun x=> !x.1)&&(backToKw cpos (keywordEach [] X.env)).all (fun x=>x.1.isSome)
  &&decide (([e,f]:List Expr).length+([]:List Keyword).length+(if ([]:List Keyword).isEmpty then 0 else 1) < 30))=true
 line:(apos.endLine == cpos.line)=true
 trees:backTo cpos (starEach [e,f] X.env)=[(false,eval e X.env),(false,eval f X.env)]
def IsD (H:Hp) (a:Addr):Prop:=(∃kvs,Rd H a (.dK kvs))∨∃kvs,Rd H a (.dT kvs)
theorem z3s {X:Cx} {pins:List (Addr × Obj)} {σ:St} {H:Hp} {s:Shared} {a:Addr} (I:Inv X pins σ H s) (d:IsD H a):
  s.TypeIs (.ref a) "dict"∧(∀b,Value.ref a=.ref b→∃ob,s.heap.get? b=some ob∧ob.dict=none)∧(a == sysModules)=false:=by
 rcases d with ⟨kvs,e⟩ | ⟨kvs,e⟩
 ·obtain ⟨_,hd,vs,_,dd⟩:=Jd I.hok e
  refine ⟨dd.typeIs,fun b q=>?_,hd⟩
  cases q
  obtain ⟨ob,_,_,h1,h2,_⟩:=dd
  exact ⟨ob,h1,h2.2.1⟩
 ·obtain ⟨_,hd,xs,_,dd⟩:=z0I I.hok e
  refine ⟨dd.typeIs,fun b q=>?_,hd⟩
  cases q
  obtain ⟨ob,_,_,h1,h2,_⟩:=dd
  exact ⟨ob,h1,h2.2.1⟩
section
variable {X:Cx} {pins:List (Addr × Obj)} {σ:St} {H:Hp} {s:Shared} {a:Addr} {y d:V} {u r:Value} {o:Option V} {A:Around} {E:Value→Shared→Prop}
theorem z8I {Q:Value→Shared→Prop} (hu:A.units+1 < cLine) (I:Inv X pins σ H s) (g:DGet H a y o) (ry:RelV y u) (h:∀w' s',Inv X pins σ H s'→RelV (o.getD .non) w'→Q w' s'):
  wpAny (model X.prog X.w) A (call (.builtin "dict.get") [.ref a,u]) Q E s:=by
 rcases g with ⟨kvs,k,e,ey,l⟩ | ⟨kvs,k,b,e,ey,eb,l⟩
 ·subst ey
  obtain ⟨z,hd,vs,rel,dd⟩:=Jd I.hok e
  refine call_meetsIn PySem.F.slot_dict_get dd.typeIs PySem.F.entry_dict_get (PySem.F.args_dict_get_2 _ _) (meets_dict_get (zP X.prog X.w) a (J8 ry) hd) ⟨_,dd.mapOf,h _ _ (I.tok _) ?_⟩
  rw [l]
  exact (rel.val k).getD rfl
 ·subst ey
  cases (show u=Value.ref b from ry)
  obtain ⟨z,hd,xs,rel,dd⟩:=z0I I.hok e
  refine call_meetsIn PySem.F.slot_dict_get dd.typeIs PySem.F.entry_dict_get (PySem.F.args_dict_get_2 _ _) (meetsH_dict_get (tupleKind (zP X.prog X.w)) a b hd) ⟨tupleKind_room_in1 hu,k,xs,QJ I.hok eb,dd,h _ _ (I.tok _) ?_⟩
  rw [l]
  exact (rel.val k).getD rfl
end
def z7H (td ty:TE):TE:=fun σ H Q=>td σ H fun x H1=>∃a,x=.ref a∧IsD H1 a∧ty σ H1 fun y H2=>∃o,DGet H2 a y o∧Q (o.getD .non) H2
def z7F (td ty:TE):TE:=fun σ H Q=>td σ H fun x H1=>∃a,x=.ref a∧IsD H1 a∧ty σ H1 fun y H2=>∃kvs k v,H2 a=some (.dK kvs)∧y=kV k∧valV kvs k=some v∧Q v (upd H2 a (.dK (z22 kvs k)))
section
variable {X:Cx} {o e f:Expr} {apos cpos:Pos} {td ty tx:TE}
theorem z11 (hu:X.A.units+1 < cLine) (ho:PE X o td) (he:PE X e ty) (m:M1 X o "get" apos e cpos):PE X (.Call (.Attribute o "get" apos) [e] [] cpos) (z7H td ty):=by
 intro pins s σ H Q I h
 refine wpAny_Call_method m.base m.few m.line PySem.F.plainAttrs_dict PySem.F.slot_dict_get PySem.F.type_dict_get (thn (ho pins s σ H _ I h) fun u s1 zz=>?_)
 obtain ⟨x,H1,I1,rx,a,ex,d,q1⟩:=zz
 subst ex
 obtain rfl:u=Value.ref a:=rx
 obtain ⟨t1,t2,_⟩:=z3s I1 d
 refine ⟨t1,t2,?_⟩
 rw [m.trees]
 refine Calls.callWith_builtin rfl (Calls.evalArgs_plain (Calls.spliced_cons (thn (he pins s1 σ H1 _ I1 q1) fun iv s2 ⟨y,H2,I2,ry,ov,g,q2⟩=>Calls.spliced_nil ?_)))
 exact z8I hu I2 g ry fun w' s3 I3 rw'=>⟨_,H2,I3,rw',q2⟩
theorem z4x (ho:PE X o td) (he:PE X e ty) (m:M1 X o "pop" apos e cpos):PE X (.Call (.Attribute o "pop" apos) [e] [] cpos) (z7F td ty):=by
 intro pins s σ H Q I h
 refine wpAny_Call_method m.base m.few m.line PySem.F.plainAttrs_dict PySem.F.slot_dict_pop PySem.F.type_dict_pop (thn (ho pins s σ H _ I h) fun u s1 zz=>?_)
 obtain ⟨x,H1,I1,rx,a,ex,d,q1⟩:=zz
 subst ex
 obtain rfl:u=Value.ref a:=rx
 obtain ⟨t1,t2,_⟩:=z3s I1 d
 refine ⟨t1,t2,?_⟩
 rw [m.trees]
 refine Calls.callWith_builtin rfl (Calls.evalArgs_plain (Calls.spliced_cons (thn (he pins s1 σ H1 _ I1 q1) fun iv s2 ⟨y,H2,I2,ry,kvs,k,v,ea,ey,l,q2⟩=>Calls.spliced_nil ?_)))
 subst ey
 exact z9I I2 ea ry l (.inl rfl) fun w' s3 I3 rw'=>⟨v,_,I3,rw',q2⟩
end
section
variable {X:Cx} {pins:List (Addr × Obj)} {σ:St} {H:Hp} {s:Shared} {a:Addr} {kvs:List (Key × V)} {A:Around} {E:Value→Shared→Prop}
theorem z5f {Q:Value→Shared→Prop} (I:Inv X pins σ H s) (e:Rd H a (.dK kvs)) (h:∀p s',H p=none→Inv X pins σ (upd H p (.dK kvs)) s'→Q (.ref p) s'):wpAny (model X.prog X.w) A (call (.type "dict") [.ref a]) Q E s:=by
 obtain ⟨z,hd,vs,rel,dd⟩:=Jd I.hok e
 refine kt_call_dict hd dd (by rw [←rel.length];exact z) fun h' dd' hs=>?_
 refine h _ _ (I.hok.fresh (ke _)) (I.laid (a:=s.heap.objs.size) (o:=.dK kvs) (t':=s.toks) (fun b q hq=>?_) (ke _) (JV z (beq_eq_false_iff_ne.mpr (Ne.symm (Nat.ne_of_lt I.big))) rel dd'))
 exact (hs.2 b (Nat.ne_of_lt (Heap.lt_size hq))).trans (Heap.get?_push_of_some _ hq)
end
section
variable {X:Cx} {pins:List (Addr × Obj)} {σ:St} {H:Hp} {s:Shared} {a:Addr} {y:V} {u:Value} {A:Around} {E:Value→Shared→Prop}
end
end L2
namespace Att
open PySem PySem.W PySem.Calls PyProof.Rows
theorem Qf {P:Params} {h:Heap}:∀(ns:List Int) (vs:List Value),WellAll P h vs (ns.map WData.int)→IntsAre vs ns:=by
 intro ns
 induction ns with
 | nil=>
  intro vs w
  rw [List.map_nil] at w
  cases w
  exact .nil
 | cons n ns ih=>
  intro vs w
  rw [kS] at w
  cases w with
  | cons a b=>
   cases a
   exact .cons _ _ (ih _ b)
theorem z2E {l:OpenLaw} {n:Nat} (hn:l.most=some n) {P:Params} {h:Heap} {args:List WData} {vals:List Value}
  (hpre:l.row.toRowW.claim.pre args=true) (hwl:WellAll P h vals args):
  ∃a vs ns,vals=[Value.ref a]∧args=[WData.list (ns.map WData.int)]∧h.get? a=some { cls:=.type "list",data:=.seq vs.toArray }∧IntsAre vs ns∧ns.length≤n:=by
 have hsh:WShape.hasAll [] args [.list .int]=true:=(pre_splitW hpre).1
 have hc:l.pre.holds [] { args:=args }=true:=(pre_splitW hpre).2
 obtain ⟨d,r,rfl,h1,h2⟩:=hasAllW_cons hsh
 obtain rfl:=hasAllW_nil h2
 obtain ⟨xs,rfl,h3⟩:=hasW_list h1
 obtain ⟨ns,rfl⟩:=items_int h3
 have hlen:ns.length≤n:=by
  unfold OpenLaw.pre at hc
  have h4:(WTm.not (.lt (.lit (.int (n:Int))) (.len (.arg 0)))).holds [] { args:=[.list (ns.map .int)] }=true:=by
   have h4:=(holds_andW hc).1
   rw [hn] at h4
   exact h4
  have h5:=condW_of h4 (w_not (w_lt w_lit (w_len_list (w_arg rfl))))
  rw [kj] at h5
  refine Nat.le_of_not_lt fun q=>?_
  have q':(n:Int) < ((ns.length:Nat):Int):=by lia
  first
   | (rw [ki q'] at h5;exact absurd h5 (by decide))
   | (simp at h5;lia)
 cases hwl with
 | cons w1 w2=>
  cases w2
  cases w1 with
  | list ho hall=>exact ⟨_,_,ns,rfl,rfl,ho,Qf ns _ hall,hlen⟩
theorem z2U (l:OpenLaw) (args:List WData):l.row.toRowW.claim.post args (.bool true) args=true:=
 postW_of (r:=l.row.toRowW) (X:=(true == true))
  (show WShape.has [] (.bool true) .bool=true by first | rfl | decide | simp [WShape.has,WShape.arms,WShape.armsAll])
  (show (WTm.eq .res (.lit (.bool true))).value [] { args:=args,res:=some (.bool true),after:=args }=some (.bool (true == true)) from w_eq_bool (w_res rfl) w_lit) rfl
theorem attach_call {l:OpenLaw} {n:Nat} {q:Program} {loose:List Str} {XP:(Str→Option Value)→Heap→Prop} {YP:World→Heap→Prop} {d:DefRec}
  (hn:l.most=some n) (hdf:d.params.defaults=[])
  (call:∀(w:World) (s₀ s₁:Shared) (mg mb:Str→Option Value) (fa:Addr) (o:Obj) (pm cd doc:Value) (a:Addr) (vs:List Value) (ns:List Int),
   Ground q loose [] XP w s₀ mg mb s₁.heap→YP w s₁.heap→
   s₁.heap.get? fa=some o→o.data=.func (docDef d.name d.params d.body d.scope pm cd doc)→s₁.heap.CodeRec cd d.name→mg d.name=some (.ref fa)→
   s₁.heap.get? a=some { cls:=.type "list",data:=.seq vs.toArray }→IntsAre vs ns→ns.length≤n→s₁.gens=#[]→
   codeAny (model l.prog w) callerA (.call (.ref fa) ⟨[.ref a],[]⟩) (fun r s'=>r=.ok (.ret (.bool true))∧OldK s₁.heap s'.heap∧s'.os=s₁.os∧AllBare s'.gens) s₁):
  WalkO q loose XP YP l.row.toRowW d [] (fun f vs=>PySem.call f vs):=by
 intro w s₀ s₁ mg mb G Y fa o pm cd doc dV kV ho hd hcd hD hmg hg args vals as hpre hlay hrd hwl hlo
 obtain rfl:dV=.none:=Dflts.none hD hdf
 obtain rfl:kV=.none:=Dflts.noKw hD
 obtain ⟨a,vs,ns,rfl,rfl,hobj,hints,hlen⟩:=z2E hn hpre hwl
 refine enter_call (codeAny_mono (call w s₀ s₁ mg mb fa o pm cd doc a vs ns G Y ho (fd_plain hd) hcd hmg hobj hints hlen hg) fun r s' hq=>?_)
 obtain ⟨rfl,h2,h3,h4⟩:=hq
 exact ⟨.inl ⟨.bool true,.bool true,[],rfl,fun _=>rfl,.bool true,z2U l _,fun _=>⟨List.Pairwise.nil,fun _ hm=>(nomatch hm)⟩⟩,h2,h3,h4⟩
section
variable {prog:Program} {w:World} {A:Around} {E:Value→Shared→Prop} {s:Shared} {K:Frag}
end
end Att
namespace L2
open PySem PySem.Spec PyProof.Rows
theorem Ji:∀{vs:List Value} {ns:List Int},IntsAre vs ns→Vals (ns.map V.int) vs
 | _,_,.nil=>.nil
 | _,_,.cons n t h=>.cons ⟨t,rfl⟩ (Ji h)
def Only (H:Hp):Prop:=∀b,H b=none∨∃o xs,H b=some (.frz o (.lst xs))
theorem z4G {P:Program} {w:World} {K:ky} {mg mb:Str→Option Value} {CX:CXT} {k:Nat} {fa a:Addr} {fd:FuncData} {x:Str} {sp:Sp} {s₁:Shared} {vs:List Value} {ns:List Int}
  (KX:K.In s₁.heap) (hns:s₁.heap.Ns mainGlobals mg) (hb:s₁.heap.Ns builtinsNs mb) (hbb:∀x:Str,x≠"__name__"→mb x=bootBuiltins x) (hlim:s₁.heap.NoLimit) (hg:s₁.gens=#[])
  (ha:s₁.heap.get? a=some { cls:=.type "list",data:=.seq vs.toArray }) (hi:IntsAre vs ns) (hl:ns.length≤sizeLine) (hr:Room k callerA)
  (F:∀base:Heap,K.In base→base.Ns mainGlobals mg→FnOk P w K mg base CX k fa fd [x] sp) (hbind:∀(s:Shared) (u:Value),BindsTo s fd ⟨[u],[]⟩ [(x,u)])
  (hsp:∀H:Hp,Only H→SqL K H a (ns.map V.int)→sp [.ref a] H (fun v _=>v=.bl true) fun _ _ _=>False)
  (hCX:∀H e s',CX [] H s₁ (fun _ _ _=>False) e s'→False):
  codeAny (model P w) callerA (.call (.ref fa) ⟨[.ref a],[]⟩) (fun r s'=>r=.ok (.ret (.bool true))∧OldK s₁.heap s'.heap∧s'.os=s₁.os∧AllBare s'.gens) s₁:=by
 have rv:=Ji hi
 have lenV:=hi.length
 have core:∀H:Hp,Only H→SqL K H a (ns.map V.int)→HOk P w H s₁.heap→(∀b,H b≠none→b=a)→(H a≠none→K.lookup a=none)→
   codeAny (model P w) callerA (.call (.ref fa) ⟨[.ref a],[]⟩) (fun r s'=>r=.ok (.ret (.bool true))∧OldK s₁.heap s'.heap∧s'.os=s₁.os∧AllBare s'.gens) s₁:=by
  intro H hO hS hok hA hK
  have base_of:∀{b:Addr} {o:Obj},s₁.heap.get? b=some o→H b=none→(hidT s₁.heap H).get? b=some o:=fun e n=>z4J e n
  have noA:∀{b:Addr} {o:Obj} {es:Array DictEntry} {ep:Nat},s₁.heap.get? b=some o→o.data=.dict es ep→H b=none:=fun {b o es ep} e d=>by
   cases q:H b with
   | none=>rfl
   | some u=>
    have e':b=a:=hA b (by rw [q];simp)
    subst e'
    rw [ha] at e;cases e
    have d':Data.seq vs.toArray _=Data.dict es ep:=d
    cases d'
  have nsK:∀{b:Addr} {m:Str→Option Value},s₁.heap.Ns b m→(hidT s₁.heap H).Ns b m:=fun {b m} ⟨o,es,ep,e,d,r⟩=>⟨o,es,ep,base_of e (noA e d),d,r⟩
  have hKb:K.In (hidT s₁.heap H):=fun b o e=>base_of (KX b o e) (by
   cases q:H b with
   | none=>rfl
   | some u=>
    have e':b=a:=hA b (by rw [q];simp)
    subst e'
    rw [hK (by rw [q];simp)] at e;cases e)
  have hM:Mod K mg (hidT s₁.heap H):=⟨hKb,nsK hns,⟨mb,nsK hb,hbb⟩,let ⟨mc,h1,h2⟩:=hlim;⟨mc,nsK h1,h2⟩⟩
  have e0:Env0 P w K mg (hidT s₁.heap H) callerA [] s₁ H:=⟨rfl,hM,fun b o e=>z6H e,kX (z3v _ _),trivial,fun b hb=>absurd (show b∈([]:List Addr) from hb) (by simp),hok,.of_eq hg⟩
  refine codeAny_mono ((F _ hKb (nsK hns)).run callerA [] s₁ H ⟨[.ref a],[]⟩ [.ref a] [.ref a] _ _ hr e0 (hbind s₁ (.ref a)) (.cons rfl .nil) (hsp H hO hS)) fun r s' h=>?_
  cases r with
  | error e=>exact (hCX H e s' h).elim
  | ok fl=>
   cases fl with
   | next=>exact False.elim h
   | brk=>exact False.elim h
   | cont=>exact False.elim h
   | ret u=>
    obtain ⟨v,H',os,bare,un,hok',r',q⟩:=h
    have q':v=.bl true:=q
    subst q'
    obtain rfl:u=Value.bool true:=r'
    refine ⟨rfl,OldK.of_keep fun b o e=>?_,os,bare⟩
    cases q:H b with
    | none=>exact un.keep b o e q (by intro z;exact absurd (show b∈([]:List Addr) from z) (by simp)) (by simp)
    | some u=>
     rcases hO b with z | ⟨ob,xs,z⟩
     ·rw [q] at z;cases z
     ·have z2:=un.frzs b ob _ z
      obtain ⟨e1,_⟩:=hok b _ z
      obtain ⟨e2,_⟩:=hok' b _ z2
      rw [e] at e1;cases e1
      exact e2
 cases hk:K.lookup a with
 | some o=>
  have e:=KX a o hk
  rw [ha] at e
  cases e
  refine core (fun _=>none) (fun _=>.inl rfl) (.inr ⟨_,vs.toArray,_,hk,rfl,rfl,rfl,by rw [kE,lenV];exact hl,by simpa using rv⟩) (fun b u z=>by have z':(none:Option HO)=some u:=z;cases z') (fun b z=>absurd rfl z) fun z=>absurd rfl z
 | none=>
  refine core (fun b=>if b=a then some (.frz { cls:=.type "list",data:=.seq vs.toArray } (.lst (ns.map V.int))) else none) (fun b=>?_) (.inl (.inr ⟨{ cls:=.type "list",data:=.seq vs.toArray },kA rfl⟩)) (fun b u z=>?_) (fun b z=>?_) fun _=>hk
  ·by_cases hb:b=a
   ·exact .inr ⟨_,_,kA hb⟩
   ·exact .inl (kz hb)
  ·by_cases hb:b=a
   ·have z':=(kA hb).symm.trans z
    cases z'
    subst hb
    exact ⟨ha,by rw [kj];exact hl,vs,_,rv,ha⟩
   ·have z':=(kz hb).symm.trans z
    cases z'
  ·by_cases hb:b=a
   ·exact hb
   ·exact absurd (kz hb) z
end L2
namespace L2
open PySem PySem.Spec PyProof.Rows
theorem z6c {l:PySem.W.OpenLaw} {n k:Nat} {q:Program} {loose:List Str} {XP:(Str→Option Value)→Heap→Prop} {YP:World→Heap→Prop} {d:DefRec} {K:Params→ky} {CX:World→CXT} {sp:World→Sp} {x:Str}
  (hn:l.most=some n) (hn2:n≤sizeLine) (hdf:d.params.defaults=[]) (hr:Room k callerA)
  (hY:∀(w:World) (h:Heap),YP w h→(K w.params).In h)
  (F:∀(w:World) (mg:Str→Option Value) (fa:Addr) (h:Heap),(K w.params).In h→h.Ns mainGlobals mg→mg d.name=some (.ref fa)→
   ∃fd:FuncData,(∀(s:Shared) (u:Value),BindsTo s fd ⟨[u],[]⟩ [(x,u)])∧
    ∀base:Heap,(K w.params).In base→base.Ns mainGlobals mg→FnOk l.prog w (K w.params) mg base (CX w) k fa fd [x] (sp w))
  (hsp:∀(w:World) (H:Hp) (a:Addr) (ns:List Int),ns.length≤n→Only H→SqL (K w.params) H a (ns.map V.int)→sp w [.ref a] H (fun v _=>v=.bl true) fun _ _ _=>False)
  (hCX:∀(w:World) (H:Hp) (s:Shared) (e:Value) (s':Shared),CX w [] H s (fun _ _ _=>False) e s'→False):
  PySem.W.WalkO q loose XP YP l.row.toRowW d [] (fun f vs=>PySem.call f vs):=by
 refine Att.attach_call hn hdf fun w s₀ s₁ mg mb fa o pm cd doc a vs ns G Y ho hd hcd hmg hobj hints hlen hg=>?_
 have KX:=hY w _ Y
 obtain ⟨fd,hb,hF⟩:=F w mg fa _ KX G.T.g hmg
 exact z4G KX G.T.g G.T.b G.T.builtins G.T.nolimit hg hobj hints (ku hlen hn2) hr hF hb (fun H hO hS=>hsp w H a ns hlen hO hS) fun H e s'=>hCX w H s₁ e s'
end L2
namespace L2
open PySem PySem.Spec PyProof.Rows
noncomputable def qd (s:Stmt):Arguments:=match s with
 | .FunctionDef _ a _ _ _ _ _ _ _ _=>a
 | _=>{ posonlyargs:=[],args:=[],vararg:=none,kwonlyargs:=[],kw_defaults:=[],kwarg:=none,defaults:=[] }
noncomputable def zH (s:Stmt):List Stmt:=match s with
 | .FunctionDef _ _ b _ _ _ _ _ _ _=>b
 | _=>[]
noncomputable def zb (s:Stmt):Scope:=match s with
 | .FunctionDef _ _ _ _ _ _ sc _ _ _=>sc
 | _=>{ kind:=.function,names:=[],isGenerator:=false,isCoroutine:=false }
abbrev CX0:CXT:=fun _ _ _ _ _ _=>False
abbrev E0:XK:=fun _ _ _=>False
theorem z1A {X:Cx}:Qq CX0 X E0:=fun _ _ _ _ _ _ _ h=>h.elim
structure Fun (K:ky) (x qual:Str) (st:Stmt) (f:Addr) (fd:FuncData):Prop where
 ex:∃(oc:Value) (od:Option Addr) (kV doc pm:Value) (an:Option Addr) (cdv ct:Value) (osl:Array (Option Value)),
  fd=PySem.W.fnOf x qual (qd st) (zH st) (zb st) .none kV doc pm an cdv ct∧K.lookup f=some ⟨oc,od,.func fd,osl⟩∧PySem.W.codeIn K cdv qual=true
 kp:PySem.W.keepIn K (.ref f)=true
section
variable {P:Program} {w:World} {K:ky} {mg:Str→Option Value} {base:Heap}
theorem Fun.ok {x qual:Str} {st:Stmt} {f:Addr} {fd:FuncData} {N ps:List Str} {k:Nat} {sp:Sp} (F:Fun K x qual st f fd) (S:zf N ps (zb st)) (len:∀vs H Q E,sp vs H Q E→vs.length=ps.length)
  (hbody:∀(cdv:Value) (A:Around) (outer:List Env) (s:Shared) (H:Hp) (vs:List V) (Q:VK) (E:XK),Room k (A.deeper (envOfC qual (zb st) s.heap.objs.size f cdv))→sp vs H Q E→
   ∃t,PSs (cxOf CX0 P w K mg base N qual (zb st) f cdv A outer s H E).nox (zH st) t∧t { nx:=fun _ H'=>Q .non H',rt:=Q } (jk N vs) H):FnOk P w K mg base CX0 (k+1) f fd ps sp:=by
 obtain ⟨oc,od,kV,doc,pm,an,cdv,ct,osl,rfl,lk,hcd⟩:=F.ex
 refine z8D lk hcd S len fun A outer s H vs Q E hr hsp=>?_
 obtain ⟨t,h,q⟩:=hbody cdv A outer s H vs Q E hr hsp
 exact ⟨t,h.nox,q⟩
theorem Fun.binds {x qual:Str} {st:Stmt} {f:Addr} {fd:FuncData} {ps:List Str} (F:Fun K x qual st f fd)
  (h:∀(kV doc pm:Value) (an:Option Addr) (cdv ct:Value) (us:List Value),us.length=ps.length→bindArgs (PySem.W.fnOf x qual (qd st) (zH st) (zb st) .none kV doc pm an cdv ct) ⟨us,[]⟩=pure (ps.zip us)):jE K fd ps []:=by
 obtain ⟨oc,od,kV,doc,pm,an,cdv,ct,osl,rfl,lk,hcd⟩:=F.ex
 exact .all (h kV doc pm an cdv ct)
theorem z1f {x qual:Str} {st:Stmt} {f:Addr} {oc:Value} {od an:Option Addr} {osl:Array (Option Value)} {kV doc pm cdv ct:Value} (l:K.lookup f=some ⟨oc,od,.func (PySem.W.fnOf x qual (qd st) (zH st) (zb st) .none kV doc pm an cdv ct),osl⟩)
  (c:PySem.W.codeIn K cdv qual=true) (k:PySem.W.keepIn K (.ref f)=true):Fun K x qual st f (PySem.W.fnOf x qual (qd st) (zH st) (zb st) .none kV doc pm an cdv ct):=⟨⟨oc,od,kV,doc,pm,an,cdv,ct,osl,rfl,l,c⟩,k⟩
end
theorem Qg {A:Around} {k:Nat} (hr:Room k A):A.units+1 < cLine:=Nat.lt_of_le_of_lt (Nat.add_le_add_left (by decide:1≤64) _) hr.units
theorem ql {n:Nat} (h:n≤1000):n < sizeLine:=Nat.lt_of_le_of_lt h (by decide)
section
variable {X:Cx}
theorem pv (i:Nat) {x:Str} {pos:Pos} (hN:autoParam (X.N[i]?=some x) aR._auto_1) (hv:Vis X.env.scope x:=by first | exact Or.inl rfl | exact Or.inr (Or.inl rfl) | exact Or.inr (Or.inr rfl)) (hd:autoParam ((x == ("__debug__":Str))=false) aR._auto_2)
  (hcd:autoParam ((x == ("__classdict__":Str))=false) aR._auto_2):PE X (.Name x pos) (tVar i):=z82 hN hv hd hcd
theorem z47:Zj X (.builtin "len") (fun xs H Q=>∃a kvs,xs=[V.ref a]∧H a=some (.dK kvs)∧Q (.int kvs.length) H):=by
 intro pins s σ H xs us Q I r h
 obtain ⟨a,kvs,rfl,ha,q⟩:=h
 obtain ⟨u,rfl,ru⟩:=QR r
 cases ru
 exact z9J I (.inl ha) fun t s' I'=>⟨.int kvs.length,H,I',⟨t,rfl⟩,q⟩
end
theorem iteF {A B:Prop} (h:B):if false=true then A else B:=by
 rw [kz ka]
 exact h
theorem iteT {A B:Prop} (h:A):if true=true then A else B:=by
 rw [kA rfl]
 exact h
theorem ite2 {c A B:Prop} [Decidable c] (h1:c→A) (h2:¬c→B):if c then A else B:=by
 by_cases h:c
 ·rw [kA h]
  exact h1 h
 ·rw [kz h]
  exact h2 h
def Same (H H':Hp):Prop:=∀b o,H b=some o→H' b=some o
theorem Same.refl (H:Hp):Same H H:=fun _ _ h=>h
theorem Same.trans {H H1 H2:Hp} (a:Same H H1) (b:Same H1 H2):Same H H2:=fun c o h=>b c o (a c o h)
theorem Same.free {H H':Hp} (e:Same H H') {l:Addr} (h:H' l=Option.none):H l=Option.none:=by
 cases q:H l with
 | none=>rfl
 | some o=>
  rw [e l o q] at h
  cases h
theorem Same.seq {K:ky} {H H':Hp} {a:Addr} {xs:List V} (e:Same H H') (h:SqL K H a xs):SqL K H' a xs:=by
 rcases h with (h | ⟨o,h⟩) | h
 ·exact .inl (.inl (e _ _ h))
 ·exact .inl (.inr ⟨o,e _ _ h⟩)
 ·exact .inr h
section
variable {κ:Type} [DecidableEq κ]
end
end L2
set_option genInjectivity false
set_option maxRecDepth 100000
set_option maxHeartbeats 4000000
namespace L2
open PySem PySem.Spec PyProof.Rows
theorem JE {names:List (Str × NameKind)} {k:NameKind} (h:∀y∈names,y.2≠k) (x:Str):names.lookup x≠some k:=fun e=>h _ (PySem.mem_of_lookup e) rfl
theorem z1y {scope:Scope} {env:Env} (h:∀y∈scope.names,y.2≠.free):relabel scope env=scope:=by
 unfold relabel
 rw [map_eq_self (l:=scope.names) (fun x hx=>by
  obtain ⟨n,k⟩:=x
  have:(k == NameKind.free)=false:=by simpa using h _ hx
  simp [this])]
section
variable {X:Cx}
def z4g (i:Nat) (te:TE):TS:=fun D σ H=>te σ H fun v H1=>D.nx (σ.set i (some v)) H1
end
end L2
namespace L2
open PySem PySem.Spec PyProof.Rows
theorem Inv.turned2 {X:Cx} {pins:List (Addr × Obj)} {σ:St} {H:Hp} {s:Shared} {h':Heap} {t':Nat} {e it:Addr} {xs:List V} (I:Inv X pins σ H s) (k:∀b o,b≠e→b≠it→s.heap.get? b=some o→h'.get? b=some o)
  (there:∀b∈[e,it],∃o,h'.get? b=some o) (fe:FpOk X pins H e) (fi:FpOk X pins H it) (new:qe X.prog X.w (upd H s.heap.objs.size (.tup xs)) h' s.heap.objs.size (.tup xs)):
  Inv X pins σ (upd H s.heap.objs.size (.tup xs)) { s with heap:=h',toks:=t' }:=by
 have hn:=I.fresh
 have nit:∀b u,H b=some u→b≠e∧b≠it:=fun b u q=>⟨(fun z=>by rw [z,fe.1] at q;cases q),(fun z=>by rw [z,fi.1] at q;cases q)⟩
 have hm:∀{b:Addr},b∉[e,it]→b≠e∧b≠it:=fun {b} hb=>⟨fun z=>hb (by simp [z]),fun z=>hb (by simp [z])⟩
 refine I.step (g':=s.gens) (d':=s.drawn) (ch:=[e,it]) (fun b hb=>?_) (fun b o _ _ hc q _=>k b o (hm hc).1 (hm hc).2 q) (fun b o _ _ hc q _=>⟨o.slots,k b o (hm hc).1 (hm hc).2 q⟩) (fun b o _ q n=>?_)
  (fun b o hc q=>⟨o,k b o (hm hc).1 (hm hc).2 q⟩) (fun b xs q=>by rw [zd (zc q hn)];exact q) (fun b o u q=>by rw [zd (zc q hn)];exact q) (fun b ps q=>⟨#[],by rw [zd (zc q hn),q];simp⟩) (fun m hm'=>?_) (fun b u q=>?_) I.bare
 ·rcases kD.mp hb with z | z
  ·subst z;exact ⟨fe.2.2.2.1,fe.2.1,fe.2.2.2.2.1,fe.2.2.2.2.2⟩
  ·have z:b=it:=by simpa using z
   subst z;exact ⟨fi.2.2.2.1,fi.2.1,fi.2.2.2.2.1,fi.2.2.2.2.2⟩
 ·rw [zd (Nat.ne_of_lt (Heap.lt_size q))];exact n
 ·obtain ⟨o,es,ep,ho,r⟩:=hm'
  exact ⟨o,es,ep,k _ o (Ne.symm fe.2.1) (Ne.symm fi.2.1) ho,r⟩
 ·by_cases hb:b=s.heap.objs.size
  ·subst hb;rw [z6] at q;cases q;exact new
  ·rw [zd hb] at q
   refine (I.hok b u q).stay (fun c v hc z=>?_) (fun c z=>by rw [zd (zc z hn)];exact z) fun c xs z=>by rw [zd (zc z hn)];exact z
   rcases hc with y | y
   ·subst y;exact k c v (nit c u q).1 (nit c u q).2 z
   ·exact k c v (nit c _ y).1 (nit c _ y).2 z
noncomputable def Ite (K:ky) (a:Addr):It:=
 ⟨fun i H=>∃xs x,SqL K H a xs∧xs[i]?=some x,fun i H x H'=>∃p y,x=.ref p∧H p=none∧H'=upd H p (.tup [.int i,y])∧∀xs,SqL K H a xs→xs[i]?=some y,fun i H=>∃xs,SqL K H a xs∧xs.length≤i⟩
theorem z2b {P:Program} {w:World} {K:ky} {elts:List Expr} {x1} {pos:Pos} (a e it:Addr) (hei:e≠it):Turn P w K (.Tuple elts x1 pos) (Ite K a) [e,it] e (fun i h=>(∃old,IsEnum h e it i old)∧h.IsListIter it a i) where
 mem:=by simp
 obj:=fun i h st b hb=>by
  rcases kD.mp hb with z | z
  ·subst z
   obtain ⟨old,q⟩:=st.1
   exact ⟨_,q,fun v y=>by cases y⟩
  ·have z:b=it:=by simpa using z
   subst z
   obtain ⟨o,q,c,d⟩:=st.2
   exact ⟨o,q,fun v z=>by rw [d] at z;cases z⟩
 keep:=fun i h h' st k=>⟨let ⟨old,q⟩:=st.1;⟨old,k e (by simp) _ q⟩,st.2.at fun o q=>k it (by simp) o q⟩
 item:=by
  intro X hP hw hK hc i pins s σ H E I hf st hg
  subst hP hw hK
  obtain ⟨xs,x,hq,hx⟩:=hg
  obtain ⟨its,rv,p,hz⟩:=I.list hq
  obtain ⟨u,hu,ru⟩:=rv.get hx
  obtain ⟨⟨old,he⟩,hit⟩:=st
  have fe:=hf e (by simp)
  have fi:=hf it (by simp)
  refine wpAny_pyNext_enum_item he hit p.isList (x:=u) (by simpa using hu) hei fun h' ho hit' hT hsz hk=>?_
  refine ⟨_,rfl,?_⟩
  have new:qe X.prog X.w (upd H s.heap.objs.size (.tup [.int i,x])) h' s.heap.objs.size (.tup [.int i,x]):=⟨by show 2≤sizeLine;decide,[.int i s.toks,u],.cons ⟨_,rfl⟩ (.cons ru .nil),_,hT,rfl,_,rfl⟩
  obtain ⟨oi,ei,_⟩:=id hit'
  have I1:Inv X pins σ (upd H s.heap.objs.size (.tup [.int i,x])) { s with heap:=h',toks:=s.toks+1 }:=I.turned2 hk (fun b hb=>by
   rcases kD.mp hb with z | z
   ·subst z;exact ⟨_,ho⟩
   ·have z:b=it:=by simpa using z
    subst z;exact ⟨_,ei⟩) fe fi new
  have ne1:e≠s.heap.objs.size:=Nat.ne_of_lt (Heap.lt_size he)
  have ne2:it≠s.heap.objs.size:=by obtain ⟨o2,e2,_⟩:=hit;exact Nat.ne_of_lt (Heap.lt_size e2)
  refine wpAny_letOwnedTupleGo_enum (s:={ s with heap:=h',toks:=s.toks+1 }) ho fun h2 he2 hs2=>?_
  have he2':IsEnum h2 e it (((i+1:Nat)):Int) u:=by simpa using he2
  refine ⟨.ref s.heap.objs.size,_,I1.turned (t':=s.toks+1) (it:=e) (fun b o hb q=>(hs2.2 b hb).trans q) (by rw [zd ne1];exact fe.1) fe.2.1 fe.2.2.2.1 fe.2.2.2.2.1 fe.2.2.2.2.2,rfl,⟨_,x,rfl,I.fresh,rfl,fun ys hy=>by rw [I.list_inj hy hq];exact hx⟩,⟨⟨u,he2'⟩,hit'.at fun o q=>(hs2.2 it hei.symm).trans q⟩,fun b hb=>?_⟩
  rcases kD.mp hb with z | z
  ·subst z;rw [zd ne1];exact fe.1
  ·have z:b=it:=by simpa using z
   subst z;rw [zd ne2];exact fi.1
 done:=by
  intro X hP hw hK hc i pins s σ H E I hf st hg
  subst hP hw hK
  obtain ⟨xs,hq,hx⟩:=hg
  obtain ⟨its,rv,p,hz⟩:=I.list hq
  obtain ⟨⟨old,he⟩,hit⟩:=st
  obtain ⟨f0,f1,f2,f3,f4,f5⟩:=hf it (by simp)
  have hl:=rv.length
  exact wpAny_pyNext_enum_end (I.ok.hd hc) he hit p.isList (by simp;lia) fun h' eb=>⟨rfl,I.turned (t':=s.toks) (fun b o hb e=>eb b o hb e) f0 f1 f3 f4 f5⟩
 self:=fun _ _ _ _ _ st h=>let ⟨old,he⟩:=st.1;wpAny_pyIter_enum he h
section
variable {X:Cx}
def z9v (K:ky) (ta:TA):TI:=fun σ H R=>ta σ H fun vs H1=>∃a,vs=[.ref a]∧(∃xs,SqL K H1 a xs)∧R (Ite K a) H1
theorem z2Z {a:Expr} {ta:TA} {p pos:Pos} {elts:List Expr} {x1} {tp:Pos} (hg:Gl X "enumerate") (hm:X.mg "enumerate"=none) (ha:PA X [a] ta) (hs:autoParam (starEach [a] X.env=[(false,eval a X.env)]) aR._auto_1):PI X (.Tuple elts x1 tp) (.Call (.Name "enumerate" p) [a] [] pos) (z9v X.K ta):=by
 intro pins s σ H R I h
 refine Call_ (ZD I hg hm boot_enumerate (PyProof.Rows.callWith_type1 (thn (ha pos pins s σ H _ I h) fun us s1 ⟨vs,H1,I1,r1,q1⟩=>?_) hs rfl))
 obtain ⟨l,e,⟨xs,hq⟩,q⟩:=q1
 subst e
 cases r1 with
 | cons r rr=>
  cases rr
  cases r
  obtain ⟨its,rv,p,hz⟩:=I1.list hq
  refine call_enumerate_list p.isList fun h' he hit hsz hk=>?_
  refine wpAny_pyIter_enum (s:={ s1 with heap:=h' }) he ?_
  have I2:Inv X pins σ H1 { s1 with heap:=h' }:=I1.kept (t':=s1.toks) hk
  have n0:H1 s1.heap.objs.size=none:=I1.fresh
  have n1:H1 (s1.heap.objs.size+1)=none:=I1.hok.fresh (Nat.le_succ _)
  refine ⟨s1.heap.objs.size+1,[s1.heap.objs.size+1,s1.heap.objs.size],_,_,H1,rfl,I2,z2b l _ _ (Nat.succ_ne_self _),⟨⟨_,he⟩,hit⟩,fun b hb=>?_,q⟩
  rcases kD.mp hb with z | z
  ·subst z;exact I1.fpOk (Nat.le_succ _) n1
  ·have z:b=s1.heap.objs.size:=by simpa using z
   subst z;exact I1.fpOk (ke _) n0
end
theorem z1g {K:ky} {a:Addr} {xs:List V} {g:TG} {tb:TS} {D:Ends} {σ:St} {H:Hp} (Pv:Nat→St→Hp→Prop) (h0:Pv 0 σ H) (hl:∀i σ H,i≤xs.length→Pv i σ H→SqL K H a xs)
  (hs:∀(i:Nat) x σ H p,xs[i]?=some x→Pv i σ H→H p=none→g (.ref p) σ (upd H p (.tup [.int i,x])) fun σ2 H2=>tb { D with nx:=Pv (i+1),ct:=Pv (i+1),bk:=D.nx } σ2 H2) (hd:∀σ H,Pv xs.length σ H→D.nx σ H):
  ∃W:Nat→Nat→St→Hp→Prop,(∃m,W 0 m σ H)∧∀i m σ H,W i m σ H→
   ((Ite K a).stop i H∧D.nx σ H)∨((Ite K a).go i H∧∃N:St→Hp→Prop,(∀σ' H',N σ' H'→∃m',m' < m∧W (i+1) m' σ' H')∧∀x H',(Ite K a).yld i H x H'→g x σ H' fun σ2 H2=>tb { D with nx:=N,ct:=N,bk:=D.nx } σ2 H2):=by
 refine ⟨fun i m σ H=>m=xs.length - i∧i≤xs.length∧Pv i σ H,⟨xs.length,by simp,Nat.zero_le _,h0⟩,?_⟩
 rintro i m σ H ⟨rfl,hi,p⟩
 have q:=hl i σ H hi p
 by_cases hlt:i < xs.length
 ·refine .inr ⟨⟨xs,xs[i],q,by simp [hlt]⟩,Pv (i+1),fun σ' H' p'=>⟨xs.length - (i+1),by lia,rfl,hlt,p'⟩,fun x H' y=>?_⟩
  obtain ⟨p',y',rfl,hn,rfl,y⟩:=y
  exact hs i y' σ _ p' (y xs q) p hn
 ·have e:i=xs.length:=by lia
  subst e
  exact .inl ⟨⟨xs,q,ke _⟩,hd σ H p⟩
end L2
namespace L2
open PySem PySem.Spec PyProof.Rows
section
variable {X:Cx}
def rS0 (f:Str→V):V→List V→Hp→VK→Prop:=fun x vs H Q=>∃z,x=.str z∧vs=[]∧Q (f z) H
theorem z1D:MtM X "str.isascii" (rS0 fun z=>.bl (Txt.isascii z)):=by
 intro pins s σ H x vs v us Q I rx rv h
 obtain ⟨z,rfl,rfl,q⟩:=h
 obtain ⟨t,rfl⟩:=rx
 cases rv
 exact SC.isascii ⟨.bl _,H,I,rfl,q⟩
theorem z1E:MtM X "str.isalpha" (rS0 fun z=>.bl (Txt.isalpha z)):=by
 intro pins s σ H x vs v us Q I rx rv h
 obtain ⟨z,rfl,rfl,q⟩:=h
 obtain ⟨t,rfl⟩:=rx
 cases rv
 exact SC.isalpha ⟨.bl _,H,I,rfl,q⟩
theorem z1C:MtM X "str.islower" (rS0 fun z=>.bl (Txt.islower z)):=by
 intro pins s σ H x vs v us Q I rx rv h
 obtain ⟨z,rfl,rfl,q⟩:=h
 obtain ⟨t,rfl⟩:=rx
 cases rv
 exact SC.islower ⟨.bl _,H,I,rfl,q⟩
theorem z4w {v:Expr} {pos:Pos} {t:TE} (h:PE X v t):PE X (.JoinedStr [v] pos) t:=fun pins s σ H Q I hq=>wpAny_JoinedStr_one (h pins s σ H Q I hq)
theorem zX:Zj X (.builtin "isinstance") (fun xs H Q=>∃x T t b,xs=[x,.ty T]∧TyOf X.K H x t∧PySem.W.kitOne X.K t (.type T)=some b∧Q (.bl b) H):=by
 intro pins s σ H xs us Q I r h
 obtain ⟨x,T,t,b,rfl,ty,e,q⟩:=h
 obtain ⟨u,u2,rfl,ru,r2⟩:=z6d r
 cases r2
 exact z3r I ru ty e fun tk=>⟨.bl b,H,I.tok tk,rfl,q⟩
end
end L2
namespace L2
open PySem PySem.Spec PyProof.Rows
def KTab (P:Params) (K:ky) (d:Addr) (tab:List (Str × V)):Prop:=
 ∃es n,K.lookup d=some ⟨.type "dict",none,.dict es n,#[]⟩∧PySem.W.KeysLit P es.toList∧(d == sysModules)=false∧Paired (fun (p:Str × V) (e:DictEntry)=>(∃t,e.key=.str p.1 t)∧RelV p.2 e.val) tab es.toList
theorem JH {x:Str}:∀{tab:List (Str × V)} {es:List DictEntry},Paired (fun (p:Str × V) (e:DictEntry)=>(∃t,e.key=.str p.1 t)∧RelV p.2 e.val) tab es→
  RelO (tab.lookup x) ((es.find? fun e=>Value.isStrOf x e.key).map (·.val))
 | _,_,.nil=>trivial
 | (k,v) :: tab,e :: es,.cons ⟨⟨t,hk⟩,hv⟩ r=>by
  have ih:=JH (x:=x) r
  by_cases hx:x=k
  ·subst hx
   have h1:((x,v) :: tab).lookup x=some v:=by simp [List.lookup]
   have h2:(e :: es).find? (fun e=>Value.isStrOf x e.key)=some e:=by
    rw [List.find?_cons,hk]
    simp [Value.isStrOf]
   rw [h1,h2]
   exact hv
  ·have h1:((k,v) :: tab).lookup x=tab.lookup x:=by
    rw [List.lookup_cons]
    have:(x == k)=false:=by simpa using hx
    rw [this]
   have h2:(e :: es).find? (fun e=>Value.isStrOf x e.key)=es.find? (fun e=>Value.isStrOf x e.key):=by
    rw [List.find?_cons,hk]
    have:Value.isStrOf x (Value.str k t)=false:=by simpa [Value.isStrOf] using fun z=>hx z.symm
    rw [this]
   rw [h1,h2]
   exact ih
section
variable {X:Cx}
theorem J7 {P:Params} {K:ky} {prog:Program} {w:World} {h:Heap} {d:Addr} {tab:List (Str × V)} (hP:P=w.params) (t:KTab P K d tab) (kin:K.In h):
  ∃f,h.MapOf (strKind prog w) d f∧(d == sysModules)=false∧∀x,RelO (tab.lookup x) (f x):=by
 subst hP
 obtain ⟨es,n,hl,hk,hd,hp⟩:=t
 refine ⟨_,PySem.W.mapOf_K (prog:=prog) kin hl hk,hd,fun x=>?_⟩
 have q:=JH (x:=x) hp
 show RelO _ (findBy Value.isStrOf es x)
 unfold findBy
 rw [←Array.find?_toList]
 exact q
def z8V (tab:List (Str × V)) (ty:TE):TE:=fun σ H Q=>ty σ H fun y H1=>∃x v,y=.str x∧tab.lookup x=some v∧Q v H1
theorem QZ {nm:Str} {i:Expr} {p pos:Pos} {d:Addr} {tab:List (Str × V)} {ty:TE} (T:KTab X.w.params X.K d tab) (hg:Gl X nm) (hm:X.mg nm=some (.ref d)) (hi:PE X i ty) (hs:NoSl i) (hd:autoParam ((nm == ("__debug__":Str))=false) aR._auto_2):
  PE X (.Subscript (.Name nm p) i pos) (z8V tab ty):=by
 intro pins s σ H Q I h
 refine z2e PySem.F.slot_dict_getitem.lookup hs (Zs I hg hm (thn (hi pins s σ H _ I h) fun iv s2 ⟨y,H2,I2,ry,x,v,ex,l,q⟩=>?_) hd)
 subst ex
 obtain ⟨t,rfl⟩:=ry
 obtain ⟨f,mo,_,hf⟩:=J7 (prog:=X.prog) (w:=X.w) rfl T I2.kIn
 have hf:=hf x
 rw [l] at hf
 obtain ⟨w',e',rw'⟩:=RelO.some_of hf
 exact ⟨mo.typeIs,wpAny_getItem_of (strKind_is X.prog X.w x t) mo e' ⟨v,H2,I2.tok _,rw',q⟩⟩
def tKIn (tab:List (Str × V)) (ty:TE):TE:=fun σ H Q=>ty σ H fun y H1=>∃x,y=.str x∧Q (.bl (tab.lookup x).isSome) H1
theorem z85 {nm:Str} {i:Expr} {p:Pos} {d:Addr} {tab:List (Str × V)} {ty:TE} (T:KTab X.w.params X.K d tab) (hg:Gl X nm) (hm:X.mg nm=some (.ref d)) (hi:PE X i ty) (hd:autoParam ((nm == ("__debug__":Str))=false) aR._auto_2):
  PC X .In i (.Name nm p) (tKIn tab ty):=by
 intro pins s σ H Q I h
 refine thn (hi pins s σ H _ I h) fun iv s1 ⟨y,H1,I1,ry,x,ex,q⟩=>Zs I1 hg hm ?_ hd
 subst ex
 obtain ⟨t,rfl⟩:=ry
 obtain ⟨f,mo,lo,hf⟩:=J7 (prog:=X.prog) (w:=X.w) rfl T I1.kIn
 refine wpAny_in_of (strKind_is X.prog X.w x t) lo mo ⟨.bl _,H1,I1.tok _,rfl,?_⟩
 rw [←RelO.isSome_eq (hf x)]
 exact q
def z7K (X:Cx) (i:Nat) (t:TA):TE:=fun σ H Q=>∃(f:Addr) (fd:FuncData) (ps:List Str) (sp:Sp) (k:Nat),σ[i]?=some (some (.ref f))∧PySem.W.keepIn X.K (.ref f)=true∧FnOk X.prog X.w X.K X.mg X.base CX0 k f fd ps sp∧Room k X.A∧jE X.K fd ps []∧
 t σ H fun vs H1=>sp vs H1 Q E0
theorem J2 {i:Nat} {x:Str} {p pos:Pos} {e:Expr} {es:List Expr} {t:TA} (hv:PE X (.Name x p) (tVar i)) (ha:PA X (e :: es) t)
  (he:autoParam (starEach (e :: es) X.env=(false,eval e X.env) :: starEach es X.env) aR._auto_1) (hpl:autoParam ((backTo pos (starEach es X.env)).any (·.1)=false) aR._auto_1):
  PE X (.Call (.Name x p) (e :: es) [] pos) (z7K X i t):=by
 intro pins s σ H Q I h
 obtain ⟨f,fd,ps,sp,k,hσ,hk,F,hr,hb,h⟩:=h
 refine wpAny_Call_Name_kw (thn (hv pins s σ H (fun v H1=>v=.ref f∧H1=H) I ⟨.ref f,hσ,rfl,rfl⟩) fun u s1 zz=>?_)
 obtain ⟨v,H1,I1,r1,e1,e2⟩:=zz
 subst e1
 subst e2
 cases r1
 refine PySem.W.callWith_K (h₀:=X.base) I1.ok.mod.kin hk (thn (ha pos pins s1 σ _ _ I1 h) fun us s2 ⟨vs,H2,I2,r,q⟩=>⟨I2.kIn,?_⟩) he hpl
 exact z0X F hr hb .nil z1A I2 r (by rw [kU];exact q)
def rEqE (K:ky):R2:=fun x y H Q=>∃p q xs,x=.ref p∧y=.ref q∧SqL K H p xs∧SqL K H q []∧Q (.bl (decide (xs=[]))) H
theorem z8a (hu:X.A.units < cLine):OpR X (compareOp .Eq) (rEqE X.K):=by
 intro pins s σ H x y v u Q I rx ry h
 obtain ⟨p,q,xs,rfl,rfl,h1,h2,hq⟩:=h
 cases rx
 cases ry
 obtain ⟨its,r,pl,_⟩:=I.list h1
 obtain ⟨its2,r2,pl2,_⟩:=I.list h2
 cases r2
 cases r with
 | nil=>
  refine SeqAt.eq_listAt (e:=fun _=>true) pl.isList pl2.isList rfl hu (fun j h1 _=>absurd h1 (by simp)) ⟨.bl _,H,I,rfl,?_⟩
  simpa using hq
 | cons a b=>
  refine SeqAt.eq_list_lengthsAt pl.isList pl2.isList (by simp) hu ⟨.bl _,H,I,rfl,?_⟩
  simpa using hq
def z6f (td ty tx:TE):TE:=fun σ H Q=>td σ H fun x H1=>∃a,x=.ref a∧IsD H1 a∧ty σ H1 fun y H2=>tx σ H2 fun z H3=>∃kvs k,H3 a=some (.dK kvs)∧y=kV k∧kvs.length < sizeLine∧
 match valV kvs k with
 | some v=>Q v H3
 | none=>Q z (upd H3 a (.dK (putK kvs k z)))
theorem z30 {o e f:Expr} {apos cpos:Pos} {td ty tx:TE} (ho:PE X o td) (he:PE X e ty) (hf:PE X f tx) (m:M2 X o "setdefault" apos e f cpos):PE X (.Call (.Attribute o "setdefault" apos) [e,f] [] cpos) (z6f td ty tx):=by
 intro pins s σ H Q I h
 refine wpAny_Call_method m.base m.few m.line PySem.F.plainAttrs_dict PySem.F.slot_dict_setdefault PySem.F.type_dict_setdefault (thn (ho pins s σ H _ I h) fun u s1 zz=>?_)
 obtain ⟨x,H1,I1,rx,a,ex,d,q1⟩:=zz
 subst ex
 obtain rfl:u=Value.ref a:=rx
 obtain ⟨t1,t2,_⟩:=z3s I1 d
 refine ⟨t1,t2,?_⟩
 rw [m.trees]
 refine Calls.callWith_builtin rfl (Calls.evalArgs_plain (Calls.spliced_cons (thn (he pins s1 σ H1 _ I1 q1) fun iv s2 ⟨y,H2,I2,ry,q2⟩=>
  Calls.spliced_cons (thn (hf pins s2 σ H2 _ I2 q2) fun fv s3 ⟨z,H3,I3,rz,kvs,k,ea,ek,hz,q3⟩=>Calls.spliced_nil ?_))))
 subst ek
 obtain ⟨hl,lo,vs,rel,dd⟩:=z3S I3.hok ea
 have lenr:=rel.length
 have hargs:argsOk "dict.setdefault" ⟨[.ref a,iv,fv],[]⟩:=PySem.F.args_dict_setdefault_3 _ _ _
 show wpAny (model X.prog X.w) X.A (call (.builtin "dict.setdefault") [.ref a,iv,fv]) _ _ _
 refine call_meetsIn PySem.F.slot_dict_setdefault dd.typeIs PySem.F.entry_dict_setdefault hargs (kt_meets_setdefault (zP X.prog X.w) a (J8 ry) lo fv) ⟨vs,dd,by lia,fun v hv=>?_,fun hn h' dd' sb=>?_⟩
 ·cases l:valV kvs k with
  | none=>
   have:=rel.val k
   rw [l,hv] at this
   exact this.elim
  | some w'=>
   have r:=rel.val k
   rw [l,hv] at r
   rw [l] at q3
   exact ⟨w',H3,I3.tok _,r,q3⟩
 ·cases l:valV kvs k with
  | some w'=>
   have r:=rel.val k
   rw [l,hn] at r
   exact r.elim
  | none=>
   rw [l] at q3
   refine ⟨z,_,Qk I3 (ob:=.dK (putK kvs k z)) (by rw [ea];exact trivial) sb ?_ (JV (ku (qA kvs k z) hz) lo (rel.put k rz) dd'),rz,q3⟩
   obtain ⟨ob,_,_,e,_⟩:=dd'
   exact ⟨ob,e⟩
end
end L2
namespace L2
open PySem PySem.Spec PyProof.Rows
theorem JZ {prog:Program} {w:World} {A:Around} {R:Result→Shared→Prop} {s:Shared} {elt target iter:Expr} {ifs:List Expr} {scope:Scope} {pos:Pos} {it acc:Value} {env:Env} (I:Nat→Shared→Prop)
  (turn:∀n s,I n s→wpAny (model prog w) A (pyNext it) (fun r s₁=>match r with
   | none=>R (.ok .next) s₁
   | some v=>wpAny (model prog w) A (letOwnedTupleGo target it v) (fun _ s₁'=>wpAny (model prog w) A (assign target env v) (fun _ s₂=>
     wpAny (model prog w) A (forIn ifs true fun c r=>if r=true then do let ok ←isTrue c env (eval c env);pure (ForInStep.yield ok) else pure (ForInStep.yield r)) (fun ok s₃=>
     if ok=true then wpAny (model prog w) A (eval elt env) (fun x s₃'=>
      wpAny (model prog w) A (call (.builtin "list.append") [acc,x]) (fun _ s₄=>∃m,m < n∧I m s₄) (fun _ _=>False) s₃') (fun _ _=>False) s₃
     else ∃m,m < n∧I m s₃)
     (fun _ _=>False) s₂) (fun _ _=>False) s₁') (fun _ _=>False) s₁) (fun _ _=>False) s)
  (n:Nat) (h:I n s):codeAny (model prog w) A (.compLoop (.ListComp elt [⟨target,iter,ifs,0⟩] scope pos) 0 it acc env) R s:=by
 refine codeAny_loop rfl I (fun n s hI=>?_) n h
 show wpAny _ _ ((compTurn (.ListComp elt [⟨target,iter,ifs,0⟩] scope pos) 0 it acc env).onRaise (fun x=>do noteFrame x env;theTreesLotGoes x)) _ _ s
 refine wpAny_noted ?_
 rw [compTurn_list]
 refine wpAny_bind (wpAny_standAt (wpAny_bind (wpAny_mono (turn n s hI) (fun r s₁ h₁=>?_) fun _ _ h'=>h'.elim)))
 cases r with
 | none=>exact wpAny_pure h₁
 | some v=>
  refine wpAny_bind (wpAny_mono h₁ (fun _ s₁' h₁'=>?_) fun _ _ h'=>h'.elim)
  refine wpAny_bind (wpAny_mono h₁' (fun _ s₂ h₂=>wpAny_bind (wpAny_mono h₂ (fun ok s₃ h₃=>?_) fun _ _ h'=>h'.elim)) fun _ _ h'=>h'.elim)
  cases ok with
  | true=>
   rw [kA rfl] at h₃ ⊢
   exact wpAny_bind (wpAny_bind (wpAny_mono h₃ (fun x s₃' h₃'=>wpAny_bind (wpAny_mono h₃' (fun _ s₄ h₄=>wpAny_pure (wpAny_pure ⟨rfl,h₄⟩)) fun _ _ h'=>h'.elim)) fun _ _ h'=>h'.elim))
  | false=>
   rw [kz ka] at h₃ ⊢
   exact wpAny_bind (wpAny_pure (wpAny_pure ⟨rfl,h₃⟩))
noncomputable abbrev qb (X:Cx) (N:List Str) (scope:Scope) (cl:List (Str × Addr)) (s:Shared) (H:Hp) (fp:List Addr) (C:Addr):Cx where
 prog:=X.prog
 w:=X.w
 K:=X.K
 mg:=X.mg
 base:=X.base
 A:=X.A
 N:=N
 s₀:=s
 H₀:=H
 env:=compEnvC scope cl C X.env
 outer:=X.stack
 stack:=X.stack
 ex:=fp
 fn:=fun _=>false
 calm:=true
 pn:=[]
 xe:=fun _ _=>False
structure ji (X:Cx) (N:List Str) (nt:Nat) (ix:List Nat) (scope:Scope) (cl:List (Str × Addr)):Prop where
 clos:closureFor scope X.env=pure cl
 nocell:∀y∈scope.names,y.2≠.cell
 kind:scope.kind=.function
 names:∀y∈scope.names,y.2=.local→scope.names.lookup y.1=some .local
 sub:∀x c,cl.lookup x=some c→X.env.cells.lookup x=some c
 has:∀x,((relabel scope X.env).names.lookup x=some .cell∨(relabel scope X.env).names.lookup x=some .free)→∃c,cl.lookup x=some c
 len:N.length=nt+ix.length
 free:∀j x,N[nt+j]?=some x→∃i,ix[j]?=some i∧X.N[i]?=some x∧X.env.kindOf x=some .cell∧(relabel scope X.env).names.lookup x=some .cell∧∀c,X.env.cells.lookup x=some c→cl.lookup x=some c
noncomputable def ZF (nt:Nat) (ix:List Nat) (σ:St):St:=List.replicate nt none++ix.map fun i=>(σ[i]?).join
def PTs (X:Cx) (ifs:List Expr) (tc:TT):Prop:=
 ∀(pins:List (Addr × Obj)) (s:Shared) (σ:St) (H:Hp) (Q:Bool→Hp→Prop),Inv X pins σ H s→tc σ H Q→
  wpAny (model X.prog X.w) X.A (forIn ifs true fun c r=>if r=true then do let ok ←isTrue c X.env (eval c X.env);pure (ForInStep.yield ok) else pure (ForInStep.yield r)) (TP X pins σ Q) X.xe s
def tAll:TT:=fun _ H Q=>Q true H
theorem Q1 {X:Cx}:PTs X [] tAll:=fun pins s σ H Q I h=>wpAny_tests_nil ⟨H,I,h⟩
theorem z2R {X:Cx} {c:Expr} {tc:TT} (h:PT X c tc):PTs X [c] tc:=fun pins s σ H Q I hq=>wpAny_tests_one (h pins s σ H Q I hq)
def z5y (nt:Nat) (ix:List Nat) (wi:TI) (g:TG) (tc:TT) (te:TE):TE:=fun σ H Q=>wi σ H fun J H1=>∀l,H1 l=none→∃W:Nat→Nat→List V→St→Hp→Prop,(∃m,W 0 m [] (ZF nt ix σ) (upd H1 l (.lst [])))∧∀i m ys σ' H2,W i m ys σ' H2→
 (J.stop i H2∧Q (.ref l) H2)∨(J.go i H2∧∀x H3,J.yld i H2 x H3→g x σ' H3 fun σ2 H4=>tc σ2 H4 fun b H5=>if b=true then te σ2 H5 fun v H6=>H6 l=some (.lst ys)∧ys.length < sizeLine∧∃m',m' < m∧W (i+1) m' (ys++[v]) σ2 (upd H6 l (.lst (ys++[v])))
  else ∃m',m' < m∧W (i+1) m' ys σ2 H5)
section
variable {X:Cx}
theorem jP {elt iter tg:Expr} {ifs:List Expr} {N:List Str} {nt:Nat} {ix:List Nat} {scope:Scope} {cl:List (Str × Addr)} {pos:Pos} {pins:List (Addr × Obj)} {σ:St} {H:Hp} {s:Shared} {it:Addr} {fp:List Addr} {tn:Nat→Heap→Prop} {J:It} {g:TG} {tc:TT} {te:TE} {Q:VK} {E:Value→Shared→Prop}
  {RR:Value→Addr→Result→Shared→Prop}
  (hc:X.calm=true) (sc:ji X N nt ix scope cl) (I:Inv X pins σ H s) (T:Turn X.prog X.w X.K tg J fp it tn) (st:tn 0 s.heap) (hf:∀b∈fp,FpOk X pins H b)
  (hg:∀(s:Shared) (H:Hp) (fp:List Addr) (C:Addr),PG (qb X N scope cl s H fp C) tg g)
  (ht:∀(s:Shared) (H:Hp) (fp:List Addr) (C:Addr),PTs (qb X N scope cl s H fp C) ifs tc)
  (he:∀(s:Shared) (H:Hp) (fp:List Addr) (C:Addr),PE (qb X N scope cl s H fp C) elt te)
  (h:∀l,H l=none→∃W:Nat→Nat→List V→St→Hp→Prop,(∃m,W 0 m [] (ZF nt ix σ) (upd H l (.lst [])))∧∀i m ys σ' H2,W i m ys σ' H2→
   (J.stop i H2∧Q (.ref l) H2)∨(J.go i H2∧∀x H3,J.yld i H2 x H3→g x σ' H3 fun σ2 H4=>tc σ2 H4 fun b H5=>if b=true then te σ2 H5 fun v H6=>H6 l=some (.lst ys)∧ys.length < sizeLine∧∃m',m' < m∧W (i+1) m' (ys++[v]) σ2 (upd H6 l (.lst (ys++[v])))
    else ∃m',m' < m∧W (i+1) m' ys σ2 H5))
  (hRR:∀D C s' H' m,Inv X pins σ H' s'→s'.heap.Ns C m→C≠X.env.locals→H' C=none→X.s₀.heap.objs.size≤C→(∀x c,X.env.cells.lookup x=some c→c≠C)→(∀p∈X.pn++pins,p.1≠C)→Q (.ref D) H'→RR (.ref D) C (.ok .next) s'):
  wpAny (model X.prog X.w) X.A (newList []) (fun acc s₃=>wpAny (model X.prog X.w) X.A (newFunctionEnv scope X.env.globals cl [] X.env.qual none .none (some X.env)) (fun cenv s₄=>
   codeAny (model X.prog X.w) X.A (.compStart (.ListComp elt [⟨tg,iter,ifs,0⟩] scope pos) 0 (.ref it) acc { cenv with scope:=relabel scope X.env }) (RR acc cenv.locals) s₄) E s₃) E s:=by
 refine wpAny_newObj_type ?_
 have I3:Inv X pins σ (upd H s.heap.objs.size (.lst [])) { s with heap:=s.heap.push { cls:=.type "list",data:=.seq ([]:List Value).toArray } }:=I.lnew (ys:=[]) (its:=[]) (t':=s.toks) .nil (Nat.zero_le _)
 have st3:tn 0 (s.heap.push { cls:=.type "list",data:=.seq ([]:List Value).toArray }):=T.keep _ _ _ st fun b hb o e=>Heap.get?_push_of_some _ e
 have fpl:∀b∈fp,b < s.heap.objs.size:=fun b hb=>by
  obtain ⟨o,e,_⟩:=T.obj _ _ st b hb
  exact Heap.lt_size e
 obtain ⟨W,⟨m0,w0⟩,turn⟩:=h s.heap.objs.size I.fresh
 have hf3:∀b∈fp,FpOk X pins (upd H s.heap.objs.size (.lst [])) b:=fun b hb=>⟨by rw [zd (Nat.ne_of_lt (fpl b hb))];exact (hf b hb).1,(hf b hb).2⟩
 generalize hD:s.heap.objs.size=D at *
 generalize hH3:upd H D (HO.lst [])=H3 at *
 generalize hs3:({ s with heap:=s.heap.push { cls:=.type "list",data:=.seq ([]:List Value).toArray } }:Shared)=s3 at *
 have hsz3:s3.heap.objs.size=D+1:=by rw [←hs3,←hD];exact Heap.size_push ..
 have st3':tn 0 s3.heap:=by rw [←hs3];exact st3
 refine wpAny_newFunctionEnv (s:=s3) sc.nocell (by intro y hy;simp at hy) (fun h1 hns hsb=>?_) sc.kind
 generalize hC:s3.heap.objs.size=C at *
 have kept:∀b o,s3.heap.get? b=some o→h1.get? b=some o:=fun b o e=>hsb.extBut b o (by rw [←hC];exact Nat.ne_of_lt (Heap.lt_size e)) (Heap.get?_push_of_some _ e)
 show codeAny (model X.prog X.w) X.A (.compStart (.ListComp elt [⟨tg,iter,ifs,0⟩] scope pos) 0 (.ref it) (.ref D) (compEnvC scope cl C X.env)) (RR (.ref D) C) { s3 with heap:=h1,toks:=s3.toks+0 }
 have fpC:∀b∈fp,b≠C:=fun b hb=>Nat.ne_of_lt (kL (fpl b hb) (by rw [hsz3];exact Nat.le_succ D))
 have cellC:∀x c,cl.lookup x=some c→c≠C:=fun x c e z=>by
  obtain ⟨v,q⟩:=I3.cell x c (sc.sub x c e)
  have:=q.lt
  rw [hC,z] at this
  exact Nat.lt_irrefl _ this
 have ok:(qb X N scope cl s3 H3 fp C).Ok:={
  mod:=I.ok.mod,kind:=(show (relabel scope X.env).kind=.function from sc.kind),glob:=I.ok.glob,blt:=I.ok.blt,above:=kX hC
  inj:=fun y z c e e'=>I.ok.inj y z c (sc.sub y c e) (sc.sub z c e')
  has:=fun y hy=>sc.has y hy
  cab:=fun y c e _=>nomatch e
  hd:=fun _=>I.ok.hd hc
  frames:=I.ok.frames
  stk:=.inl rfl
  exf:=fun b hb=>⟨fpC b hb,fun y c e=>(hf3 b hb).2.2.2.2.1 y c (sc.sub y c e)⟩
  bs:=I3.bs
  bsz:=ku I.ok.bsz I3.sz
  noex:=fun b o e hb=>by
   obtain ⟨_,_,_,h4,_⟩:=hf3 b hb
   rcases h4 with z | z
   ·exact I.ok.noex b o e z
   ·exact absurd (kL (Heap.lt_size (I.ok.bs b o e).1) z) (Nat.lt_irrefl _)
  exfs:=fun b hb z=>by
   obtain ⟨_,h1,h2,_⟩:=hf3 b hb
   rcases kD.mp (I3.stkSub b z) with q | q
   ·exact h1 q
   ·exact h2 q
  funs:=I3.stack
  frf:=I3.stkFree }
 have cellK:∀c v,s3.heap.IsCell c v→h1.IsCell c v:=fun c v ⟨o,ho,hd⟩=>⟨o,kept c o ho,hd⟩
 have I4:Inv (qb X N scope cl s3 H3 fp C) [] (ZF nt ix σ) H3 { s3 with heap:=h1,toks:=s3.toks+0 }:={
  ok:=ok,os:=rfl,bare:=I3.bare,base:=Un.kept kept
  loc:=⟨_,hns,fun i y v e1 e2 _=>by
   have e2:(ZF nt ix σ)[i]?=some (some v):=e2
   unfold ZF at e2
   by_cases hi:i < nt
   ·rw [yf (by simpa using hi),List.getElem?_replicate,kA hi] at e2
    cases e2
   ·obtain ⟨j,rfl⟩:∃j,i=nt+j:=⟨i - nt,by lia⟩
    rw [yg (by simp),List.length_replicate,Nat.add_sub_cancel_left,List.getElem?_map] at e2
    obtain ⟨k,hk,hXN,hkind,hrel,hcl⟩:=sc.free j y e1
    rw [hk] at e2
    have e3:σ[k]?=some (some v):=by
     cases q:σ[k]? with
     | none=>rw [Option.map_some,q] at e2;cases e2
     | some o=>rw [Option.map_some,q] at e2;simpa using e2
    obtain ⟨m,_,hl⟩:=I3.loc
    obtain ⟨u,ru,lk⟩:=hl k y v hXN e3 (.inr (.inl hkind))
    refine ⟨u,ru,.inr ⟨.inl hrel,?_⟩⟩
    rcases lk with ⟨z,_⟩ | ⟨_,c,hcc,hcell⟩
    ·rw [hkind] at z;cases z
    ·exact ⟨c,hcl c hcc,cellK _ _ hcell⟩⟩
  cell:=fun y c e=>let ⟨v,q⟩:=I3.cell y c (sc.sub y c e);⟨v,cellK _ _ q⟩
  free:=I3.hok.fresh (kX hC)
  freeC:=fun y c e=>I3.freeC y c (sc.sub y c e)
  pin:=fun p hp=>absurd (show p∈([]:List (Addr × Obj)) from hp) (by simp)
  hok:=I3.hok.kept kept
  len:=by show (ZF nt ix σ).length=N.length;rw [sc.len];unfold ZF;simp }
 have st4:tn 0 h1:=T.keep _ _ _ st3' fun b hb o e=>kept b o e
 have stat:∀{H':Hp},(∀b∈fp,H' b=none)→∀b∈fp,FpOk (qb X N scope cl s3 H3 fp C) [] H' b:=fun hn b hb=>⟨hn b hb,fpC b hb,ok.exfs b hb,.inl hb,(fun y c e=>(hf3 b hb).2.2.2.2.1 y c (sc.sub y c e)),fun p hp=>absurd (show p∈([]:List (Addr × Obj)) from hp) (by simp)⟩
 have loop:codeAny (model X.prog X.w) X.A (.compLoop (.ListComp elt [⟨tg,iter,ifs,0⟩] scope pos) 0 (.ref it) (.ref D) (compEnvC scope cl C X.env)) (RR (.ref D) C) { s3 with heap:=h1,toks:=s3.toks+0 }:=by
  refine JZ (fun n s'=>∃i ys σ' H',Inv (qb X N scope cl s3 H3 fp C) [] σ' H' s'∧tn i s'.heap∧(∀b∈fp,H' b=none)∧W i n ys σ' H') ?_ m0 ⟨0,[],_,H3,I4,st4,fun b hb=>(hf3 b hb).1,w0⟩
  rintro n s5 ⟨i,ys,σ5,H5,I5,st5,fr5,w5⟩
  rcases turn i n ys σ5 H5 w5 with ⟨stop,qn⟩ | ⟨go,step⟩
  ·refine thn (T.done (qb X N scope cl s3 H3 fp C) rfl rfl rfl rfl i [] s5 σ5 H5 _ I5 (stat fr5) st5 stop) fun r s6 zz=>?_
   obtain ⟨hr,I6⟩:=zz
   subst hr
   obtain ⟨m6,n6,_⟩:=I6.loc
   refine hRR D C s6 H5 m6 (I3.call' I6.os I6.base I6.hok I6.bare fun b hb=>?_) n6 (Nat.ne_of_gt (by have:=I3.lt;rw [hC] at this;exact this)) I6.free (by have:=I3.sz;rw [hC] at this;exact this) (fun y c e z=>?_) (fun p hp z=>?_) qn
   ·obtain ⟨_,h1,_,h4,h5,h6⟩:=hf3 b hb
    exact ⟨h4,h1,h5,h6⟩
   ·obtain ⟨v,q⟩:=I3.cell y c e
    have:=q.lt
    rw [hC,z] at this
    exact Nat.lt_irrefl _ this
   ·have:=Heap.lt_size (I3.pin p hp).1
    rw [hC,z] at this
    exact Nat.lt_irrefl _ this
  ·refine thn (T.item (qb X N scope cl s3 H3 fp C) rfl rfl rfl rfl i [] s5 σ5 H5 _ I5 (stat fr5) st5 go) fun r s6 zz=>?_
   obtain ⟨u,hr,h6⟩:=zz
   subst hr
   refine thn h6 fun _ s7 zz=>?_
   obtain ⟨v,H7,I7,r7,y7,st7,fr7⟩:=zz
   have I7':=I7.pinned (stat fr7) (T.obj _ _ st7)
   refine thn (hg s3 H3 fp C _ s7 σ5 H7 v u _ I7' r7 (step v H7 y7)) fun _ s8 zz=>?_
   obtain ⟨σ8,H8,I8,q8⟩:=zz
   refine thn (ht s3 H3 fp C _ s8 σ8 H8 _ I8 q8) fun b s9 zz=>?_
   obtain ⟨H9,I9,q9⟩:=zz
   have again:∀{sE:Shared} {HE:Hp} {ysE:List V} {m':Nat},Inv (qb X N scope cl s3 H3 fp C) ([]++Jw fp s7.heap) σ8 HE sE→m' < n→W (i+1) m' ysE σ8 HE→∃m,m < n∧∃i ys σ' H',Inv (qb X N scope cl s3 H3 fp C) [] σ' H' sE∧tn i sE.heap∧(∀b∈fp,H' b=none)∧W i m ys σ' H':=fun {sE HE ysE m'} IE hm' wE=>by
    refine ⟨m',hm',i+1,ysE,σ8,HE,IE.unpinned (pins:=[]),T.keep _ _ _ st7 fun b hb o e=>(IE.pin (b,o) (kM _ (kM _ (jF hb e)))).1,fun b hb=>?_,wE⟩
    obtain ⟨o,e,d⟩:=T.obj _ _ st7 b hb
    exact (IE.pin (b,o) (kM _ (kM _ (jF hb e)))).2.1
   cases b with
   | false=>
    rw [kz ka] at q9 ⊢
    obtain ⟨m',hm',w9⟩:=q9
    exact again I9 hm' w9
   | true=>
    rw [kA rfl] at q9 ⊢
    refine thn (he s3 H3 fp C _ s9 σ8 H9 _ I9 q9) fun yv s10 zz=>?_
    obtain ⟨y,H10,I10,r10,q10⟩:=zz
    obtain ⟨hl9,hz9,m',hm',w9⟩:=q10
    obtain ⟨z9,its,k9,rv9,ll9,e9⟩:=I10.lstM hl9
    refine call_meets F.slot_list_append ⟨_,e9,rfl⟩ F.entry_list_append (F.args_list_append_2 _ _) (PySem.list_append D its.toArray k9 yv (by rw [kE];lia)) ⟨e9,?_⟩
    have I11:=I10.lset (t':=s10.toks) (its':=its++[yv]) (f:=(·.push yv)) hl9 e9 (by simp) (rv9.append (.cons r10 .nil)) (by rw [kl,kF];lia)
    exact again I11 hm' w9
 exact codeAny_compStart_list loop (T.self _ 0 _ _ _ st4 loop)
theorem J0 {elt iter tg:Expr} {ifs:List Expr} {N:List Str} {nt:Nat} {ix:List Nat} {scope:Scope} {cl:List (Str × Addr)} {pos:Pos} {wi:TI} {g:TG} {tc:TT} {te:TE} (hc:X.calm=true) (sc:ji X N nt ix scope cl) (hi:PI X tg iter wi)
  (hg:∀(s:Shared) (H:Hp) (fp:List Addr) (C:Addr),PG (qb X N scope cl s H fp C) tg g)
  (ht:∀(s:Shared) (H:Hp) (fp:List Addr) (C:Addr),PTs (qb X N scope cl s H fp C) ifs tc)
  (he:∀(s:Shared) (H:Hp) (fp:List Addr) (C:Addr),PE (qb X N scope cl s H fp C) elt te) (hs:∀x,foldedSetIterable iter X.env x=pure x:=by intro _;rfl):
  PE X (.ListComp elt [⟨tg,iter,ifs,0⟩] scope pos) (z5y nt ix wi g tc te):=by
 intro pins s σ H Q I h
 rw [eval_ListComp]
 refine wpAny_comprehension_free (use:=none) rfl hs sc.clos sc.kind sc.names (thn (hi pins s σ H _ I h) fun v s1 h1=>thn h1 fun itv s2 h2=>?_)
 obtain ⟨it,fp,tn,J,H2,e,I2,T,st2,f2,q2⟩:=h2
 subst e
 refine jP (RR:=fun acc C=>compPost (model X.prog X.w) X.A X.xe none (EP X pins σ Q) acc C) hc sc I2 T st2 f2 hg ht he q2 ?_
 intro D C s' H' m I' n' c1 c2 c3 c4 c5 q'
 exact ⟨m,n',fun h' hs'=>⟨.ref D,H',I'.turned (t':=s'.toks) (it:=C) (fun b o hb e=>(hs'.2 b hb).trans e) c2 c1 (.inr c3) c4 c5,rfl,q'⟩⟩
theorem Q2 {elt iter tg:Expr} {ifs:List Expr} {N:List Str} {nt:Nat} {ix:List Nat} {y:Str} {i:Nat} {py spos:Pos} {scope:Scope} {cl:List (Str × Addr)} {pos:Pos} {wi:TI} {g:TG} {tc:TT} {te:TE} (hc:X.calm=true) (hN:X.N.Nodup) (hy:X.N[i]?=some y) (hl:Loc X.env.scope y) (sc:ji X N nt ix scope cl) (hi:PI X tg iter wi)
  (hg:∀(s:Shared) (H:Hp) (fp:List Addr) (C:Addr),PG (qb X N scope cl s H fp C) tg g)
  (ht:∀(s:Shared) (H:Hp) (fp:List Addr) (C:Addr),PTs (qb X N scope cl s H fp C) ifs tc)
  (he:∀(s:Shared) (H:Hp) (fp:List Addr) (C:Addr),PE (qb X N scope cl s H fp C) elt te)
  (hsw:autoParam (swapsWith (.ListComp elt [⟨tg,iter,ifs,0⟩] scope pos) (some (.Name y py)) spos.line X.env=pure true) aR._auto_1) (hs:∀x,foldedSetIterable iter X.env x=pure x:=by intro _;rfl)
  (hf:X.fn y=true∨X.env.scope.names.lookup y=some .local:=by first | exact .inl rfl | exact .inr rfl | assumption):
  PS X (.Assign [.Name y py] (.ListComp elt [⟨tg,iter,ifs,0⟩] scope pos) spos) (z4g i (z5y nt ix wi g tc te)):=by
 intro pins s σ H D I h
 rw [exec_Assign_Name_used _ _ _ _ hsw]
 refine wpAny_bind (wpAny_standAt (wpAny_bind ?_))
 show wpAny _ X.A (do let _ ←comprehension (.ListComp elt [⟨tg,iter,ifs,0⟩] scope pos) scope X.env _ (newList []) false (eval iter X.env) (some (assign (.Name y py) X.env))) _ _ s
 refine wpAny_bind (wpAny_mono (wpAny_comprehension_free (use:=some (assign (.Name y py) X.env)) (Q:=fun _ s'=>SP X pins D .next s') (E:=X.xe) rfl hs sc.clos sc.kind sc.names
  (thn (hi pins s σ H _ I h) fun v s1 h1=>thn h1 fun itv s2 h2=>?_)) (fun _ s' hq=>wpAny_pure (wpAny_pure hq)) fun _ _ e=>e)
 obtain ⟨it,fp,tn,J,H2,e,I2,T,st2,f2,q2⟩:=h2
 subst e
 refine jP (Q:=fun v H1=>D.nx (σ.set i (some v)) H1) (RR:=fun acc C=>compPost (model X.prog X.w) X.A X.xe (some (assign (.Name y py) X.env)) (fun _ s'=>SP X pins D .next s') acc C) hc sc I2 T st2 f2 hg ht he q2 ?_
 intro l C s' H' m I' n' c1 c2 c3 c4 c5 q'
 show wpAny _ X.A (assign (.Name y py) X.env (.ref l)) _ _ _
 refine wpAny_assign_Name (Jl I' hN hy hl (v:=.ref l) rfl (fun s'' I'' k=>?_) hf)
 obtain ⟨a,sb,ha⟩:=k
 have hne:C≠a:=by
  rcases ha with ha | ha
  ·rw [ha];exact c1
  ·exact fun z=>c4 _ _ ha z.symm
 refine ⟨m,n'.sameBut sb hne,fun h' hs'=>?_⟩
 exact ⟨_,H',I''.turned (t':=s''.toks) (it:=C) (fun b o hb e=>(hs'.2 b hb).trans e) c2 c1 (.inr c3) c4 c5,q'⟩
end
end L2
namespace L2
open PySem PySem.Spec PyProof.Rows
theorem Inv.recast {X:Cx} {pins:List (Addr × Obj)} {σ:St} {H:Hp} {s:Shared} {d:Addr} {u u':HO} (I:Inv X pins σ H s) (e:H d=some u) (nt:∀xs,u≠.tup xs) (nb:∀ps,u≠.tbl ps) (no:∀x,u≠.own x)
  (hfz:∀o v,X.H₀ d≠some (.frz o v)) (ok:qe X.prog X.w (upd H d u') s.heap d u'):Inv X pins σ (upd H d u') s:=by
 have nn:∀b,H b=none→upd H d u' b=none:=fun b h=>by
  rw [zd (fun z=>by rw [z,e] at h;cases h)];exact h
 refine { I with base:=⟨I.base.keep,I.base.slot,fun b o q n hx=>nn b (I.base.free b o q n hx),I.base.there,fun b xs q=>?_,fun b o v q=>?_,fun b ps q=>?_⟩,free:=nn _ I.free,freeC:=fun x c q=>nn _ (I.freeC x c q),pin:=fun p hp=>?_,hok:=fun b v q=>?_ }
 ·have:=I.base.tups b xs q
  rw [zd (fun z=>by rw [z,e] at this;exact nt xs (kB this))];exact this
 ·have:=I.base.frzs b o v q
  rw [zd (fun z=>hfz o v (by rw [←z];exact q))];exact this
 ·obtain ⟨m,h⟩:=I.base.tbls b ps q
  exact ⟨m,by rw [zd (fun z=>by rw [z,e] at h;exact nb _ (kB h))];exact h⟩
 ·obtain ⟨a,b,c⟩:=I.pin p hp
  exact ⟨a,nn _ b,c⟩
 ·by_cases hb:b=d
  ·subst hb;rw [z6] at q;cases q;exact ok
  ·rw [zd hb] at q
   refine (I.hok b v q).stay (fun _ _ _ z=>z) (fun c z=>?_) fun c xs z=>?_
   ·rw [zd (fun y=>by rw [y,e] at z;exact no _ (kB z))];exact z
   ·rw [zd (fun y=>by rw [y,e] at z;exact nt _ (kB z))];exact z
theorem Inv.nofrz {X:Cx} {pins:List (Addr × Obj)} {σ:St} {H:Hp} {s:Shared} {d:Addr} {u:HO} (I:Inv X pins σ H s) (e:H d=some u) (nf:∀o v,u≠.frz o v):∀o v,X.H₀ d≠some (.frz o v):=fun o v q=>by
 have:=I.base.frzs d o v q
 rw [e] at this
 exact nf o v (kB this)
theorem z3m {k:Key} {u:Value} (h:z0x k u=true):RelV (kV k) u:=by
 rcases zW h with ⟨i,t,rfl,rfl⟩ | ⟨x,t,rfl,rfl⟩
 ·exact ⟨t,rfl⟩
 ·exact ⟨t,rfl⟩
theorem KV.get {kvs:List (Key × V)} {vs:List (Key × Value)} (r:KV kvs vs):∀{i:Nat} {p:Key × V},kvs[i]?=some p→∃v,vs[i]?=some (p.1,v)∧RelV p.2 v:=by
 unfold KV at r
 induction r with
 | nil=>intro i p h;simp at h
 | @cons p q ps qs h t ih=>
  intro i p' hp
  cases i with
  | zero=>
   simp at hp
   subst hp
   exact ⟨q.2,by rw [h.1];rfl,h.2⟩
  | succ i=>
   obtain ⟨v,h1,h2⟩:=ih (by simpa using hp)
   exact ⟨v,by simpa using h1,h2⟩
noncomputable def Itd (a:Addr) (o:Obj) (kvs:List (Key × V)):It:=
 ⟨fun i H=>H a=some (.frz o (.dK kvs))∧i < kvs.length,fun i H x H'=>∃p k v,x=.ref p∧H p=none∧kvs[i]?=some (k,v)∧H'=upd H p (.tup [kV k,v]),fun i H=>H a=some (.frz o (.dK kvs))∧kvs.length≤i⟩
theorem z3P:entryFor table "dict_itemiterator.__iter__"=some Builtin.«dict_keyiterator.__iter__»:=
 entryFor_alias (id':="dict_keyiterator.__iter__") (by rw [fastTable_eq_tree];kernel_rfl) (by kernel_rfl) (by kernel_rfl) (by rw [fastTable_eq_tree];kernel_rfl)
theorem jt {prog:Program} {w:World} {A:Around} {E:Value→Shared→Prop} {s:Shared} {it d:Addr} {i n ep:Nat} {ok ov:Value} {Q:Value→Shared→Prop} (he:IsItemIter s.heap it d i n ep ok ov) (h:Q (.ref it) s):
  wpAny (model prog w) A (pyIter (.ref it)) Q E s:=by
 have hT:s.TypeIs (.ref it) "dict_itemiterator":=⟨_,he,rfl⟩
 refine wpAny_pyIter_slot hT F.slot_dict_itemiterator_iter (wpAny_call_entry F.slot_dict_itemiterator_iter hT z3P ?_ (F.args_dict_itemiterator_iter_1 _))
 show wpAny _ _ (ret (.ref it)) _ _ s
 exact wpAny_pure ⟨_,rfl,"dict_itemiterator",_,hT,F.slot_dict_itemiterator_next.lookup,h⟩
theorem z1t {P:Program} {w:World} {K:ky} {elts:List Expr} {x1} {pos:Pos} (a it:Addr) (o:Obj) (kvs:List (Key × V)):
  Turn P w K (.Tuple elts x1 pos) (Itd a o kvs) [it] it (fun i h=>∃es ep ok ov,o.data=.dict es ep∧IsItemIter h it a i kvs.length ep ok ov) where
 mem:=by simp
 obj:=fun i h st b hb=>by
  have z:b=it:=by simpa using hb
  subst z
  obtain ⟨es,ep,ok,ov,_,q⟩:=st
  exact ⟨_,q,fun v y=>by cases y⟩
 keep:=fun i h h' st k=>let ⟨es,ep,ok,ov,d,q⟩:=st;⟨es,ep,ok,ov,d,k it (by simp) _ q⟩
 item:=by
  intro X hP hw hK hc i pins s σ H E I hf st hg
  subst hP hw hK
  obtain ⟨hq,hi⟩:=hg
  obtain ⟨es,ep,ok,ov,hd,hit⟩:=st
  obtain ⟨ho,hz,hsy,vs,rel,ob,es',ep',hob,hex,hdat,r3⟩:=(show qe X.prog X.w H s.heap a (.frz o (.dK kvs)) from I.hok a _ hq)
  rw [ho] at hob
  cases hob
  rw [hd] at hdat
  cases hdat
  have hm:s.heap.DictAt (zP X.prog X.w) a vs ep:=⟨o,es,ho,hex,hd,r3⟩
  have hlen:kvs.length=vs.length:=Paired.length rel
  obtain ⟨p,hp⟩:∃p,kvs[i]?=some p:=⟨kvs[i],kK hi⟩
  obtain ⟨v,hv,rv⟩:=rel.get hp
  have fi:=hf it (by simp)
  rw [hlen] at hit
  refine wpAny_pyNext_items_item hit hm hv fun key h' hkey heo ht hsz hk=>⟨_,rfl,?_⟩
  have rk:RelV (kV p.1) key:=z3m hkey
  have new:qe X.prog X.w (upd H s.heap.objs.size (.tup [kV p.1,p.2])) h' s.heap.objs.size (.tup [kV p.1,p.2]):=⟨by show 2≤sizeLine;decide,[key,v],.cons rk (.cons rv .nil),_,ht,rfl,_,rfl⟩
  have I1:Inv X pins σ (upd H s.heap.objs.size (.tup [kV p.1,p.2])) { s with heap:=h',toks:=s.toks }:=I.turned2 (e:=it) (it:=it) (t':=s.toks) (fun b o hb _ e=>hk b o hb e) (fun b hb=>by
   have z:b=it:=by simpa using hb
   subst z;exact ⟨_,heo⟩) fi fi new
  have ne1:it≠s.heap.objs.size:=Nat.ne_of_lt (Heap.lt_size hit)
  refine wpAny_letOwnedTupleGo_items (s:={ s with heap:=h' }) heo fun h2 he2 hs2=>?_
  refine ⟨.ref s.heap.objs.size,_,I1.turned (t':=s.toks) (it:=it) (fun b o hb q=>(hs2.2 b hb).trans q) (by rw [zd ne1];exact fi.1) fi.2.1 fi.2.2.2.1 fi.2.2.2.2.1 fi.2.2.2.2.2,rfl,⟨_,p.1,p.2,rfl,I.fresh,hp,rfl⟩,⟨es,ep,key,v,hd,by rw [hlen];exact he2⟩,fun b hb=>?_⟩
  have z:b=it:=by simpa using hb
  subst z;rw [zd ne1];exact fi.1
 done:=by
  intro X hP hw hK hc i pins s σ H E I hf st hg
  subst hP hw hK
  obtain ⟨hq,hi⟩:=hg
  obtain ⟨es,ep,ok,ov,hd,hit⟩:=st
  obtain ⟨ho,hz,hsy,vs,rel,ob,es',ep',hob,hex,hdat,r3⟩:=(show qe X.prog X.w H s.heap a (.frz o (.dK kvs)) from I.hok a _ hq)
  rw [ho] at hob
  cases hob
  rw [hd] at hdat
  cases hdat
  have hm:s.heap.DictAt (zP X.prog X.w) a vs ep:=⟨o,es,ho,hex,hd,r3⟩
  have hlen:kvs.length=vs.length:=Paired.length rel
  rw [hlen] at hit hi
  obtain ⟨f0,f1,f2,f3,f4,f5⟩:=hf it (by simp)
  exact wpAny_pyNext_items_end (I.ok.hd hc) hit hm (by rw [List.getElem?_eq_none_iff];exact hi) fun h' eb=>⟨rfl,I.turned (t':=s.toks) (fun b o hb e=>eb b o hb e) f0 f1 f3 f4 f5⟩
 self:=fun _ _ _ _ _ st h=>let ⟨es,ep,ok,ov,_,q⟩:=st;jt q h
section
variable {X:Cx}
def z7I (nt:Nat) (ix:List Nat) (td:TE) (g:TG) (tc:TT) (te:TE):TE:=fun σ H Q=>td σ H fun x H1=>∃a kvs,x=.ref a∧H1 a=some (.dK kvs)∧∀o l,H1 l=none→∃W:Nat→Nat→List V→St→Hp→Prop,(∃m,W 0 m [] (ZF nt ix σ) (upd (upd H1 a (.frz o (.dK kvs))) l (.lst [])))∧∀i m ys σ' H2,W i m ys σ' H2→
 H2 a=some (.frz o (.dK kvs))∧(kvs.length≤i→Q (.ref l) (upd H2 a (.dK kvs)))∧(∀p k v,kvs[i]?=some (k,v)→H2 p=none→g (.ref p) σ' (upd H2 p (.tup [kV k,v])) fun σ2 H4=>tc σ2 H4 fun b H5=>if b=true then te σ2 H5 fun v H6=>H6 l=some (.lst ys)∧ys.length < sizeLine∧∃m',m' < m∧W (i+1) m' (ys++[v]) σ2 (upd H6 l (.lst (ys++[v])))
  else ∃m',m' < m∧W (i+1) m' ys σ2 H5)
theorem z12 {elt o:Expr} {elts:List Expr} {x1} {tp apos cpos:Pos} {ifs:List Expr} {N:List Str} {nt:Nat} {ix:List Nat} {scope:Scope} {cl:List (Str × Addr)} {pos:Pos} {td:TE} {g:TG} {tc:TT} {te:TE} (hc:X.calm=true) (sc:ji X N nt ix scope cl) (ho:PE X o td)
  (hg:∀(s:Shared) (H:Hp) (fp:List Addr) (C:Addr),PG (qb X N scope cl s H fp C) (.Tuple elts x1 tp) g)
  (ht:∀(s:Shared) (H:Hp) (fp:List Addr) (C:Addr),PTs (qb X N scope cl s H fp C) ifs tc)
  (he:∀(s:Shared) (H:Hp) (fp:List Addr) (C:Addr),PE (qb X N scope cl s H fp C) elt te) (hs:∀x,foldedSetIterable (.Call (.Attribute o "items" apos) [] [] cpos) X.env x=pure x:=by intro _;rfl)
  (hbase:autoParam (attributeBase o "items" X.env (eval o X.env)=eval o X.env) aR._auto_1) (hline:autoParam ((apos.endLine == cpos.line)=true) aR._auto_1):
  PE X (.ListComp elt [⟨.Tuple elts x1 tp,.Call (.Attribute o "items" apos) [] [] cpos,ifs,0⟩] scope pos) (z7I nt ix td g tc te):=by
 intro pins s σ H Q I h
 rw [eval_ListComp]
 refine wpAny_comprehension_free (use:=none) rfl hs sc.clos sc.kind sc.names ?_
 refine wpAny_Call_method0_late hbase hline (thn (ho pins s σ H _ I h) fun v s1 zz=>?_)
 obtain ⟨x,H1,I1,r1,a,kvs,ex,ha,q1⟩:=zz
 subst ex
 cases r1
 obtain ⟨hz,hsy,vs,rel,dd⟩:=z3S I1.hok ha
 obtain ⟨ob,es,ep,hob,hex,hdat,r3⟩:=id dd
 have hlen:kvs.length=vs.length:=Paired.length rel
 refine ⟨"dict",_,F.plainAttrs_dict,F.slot_dict_items,F.type_dict_items,⟨ob,hob,hex.1⟩,fun b z=>(by cases z;exact ⟨ob,hob,hex.2.1⟩),Calls.callWith_builtin rfl (PySem.evalArgs_none ?_)⟩
 refine call_meetsIn F.slot_dict_items dd.typeIs F.entry_dict_items (F.args_dict_items_1 _) (meets_dict_items (zP X.prog X.w) a hsy) ⟨⟨vs,dd⟩,?_⟩
 have k2:∀b o,s1.heap.get? b=some o→(s1.heap.push { cls:=.type "dict_items",data:=.fields #[.ref a] }).get? b=some o:=fun b o e=>Heap.get?_push_of_some _ e
 have I2:Inv X pins σ H1 { s1 with heap:=s1.heap.push { cls:=.type "dict_items",data:=.fields #[.ref a] } }:=I1.kept (t':=s1.toks) k2
 have hm:(s1.heap.push { cls:=.type "dict_items",data:=.fields #[.ref a] }).DictAt (zP X.prog X.w) a vs ep:=⟨ob,es,k2 _ _ hob,hex,hdat,r3⟩
 generalize hs2:({ s1 with heap:=s1.heap.push { cls:=.type "dict_items",data:=.fields #[.ref a] } }:Shared)=s2 at *
 have hm2:s2.heap.DictAt (zP X.prog X.w) a vs ep:=by rw [←hs2];exact hm
 have hview:s2.heap.IsItemsView s1.heap.objs.size a:=⟨_,by rw [←hs2];exact Heap.get?_push_size _ rfl,rfl,rfl⟩
 refine wpAny_pyIter_items hview hm2 ?_
 have k3:∀b o,s2.heap.get? b=some o→(s2.heap.push { cls:=.type "dict_itemiterator",data:=.fields #[.none,.bool false,.ref a,.int 0 0,.int vs.length 0,.int ep 0,.none,.none] }).get? b=some o:=fun b o e=>Heap.get?_push_of_some _ e
 have I3:Inv X pins σ H1 { s2 with heap:=s2.heap.push { cls:=.type "dict_itemiterator",data:=.fields #[.none,.bool false,.ref a,.int 0 0,.int vs.length 0,.int ep 0,.none,.none] } }:=I2.kept (t':=s2.toks) k3
 have hob3:(s2.heap.push { cls:=.type "dict_itemiterator",data:=.fields #[.none,.bool false,.ref a,.int 0 0,.int vs.length 0,.int ep 0,.none,.none] }).get? a=some ob:=k3 _ _ (by rw [←hs2];exact k2 _ _ hob)
 have nf:=I3.nofrz ha (fun _ _=>nofun)
 have I4:=I3.recast (u':=.frz ob (.dK kvs)) ha (fun _=>nofun) (fun _=>nofun) (fun _=>nofun) nf ⟨hob3,hz,hsy,vs,rel,ob,es,ep,hob3,hex,hdat,r3⟩
 have itn:H1 s2.heap.objs.size=none:=I2.fresh
 have nea:s2.heap.objs.size≠a:=(zc ha itn).symm
 refine jP (Q:=fun v H'=>H' a=some (.frz ob (.dK kvs))∧Q v (upd H' a (.dK kvs))) (RR:=fun acc C=>compPost (model X.prog X.w) X.A X.xe none (EP X pins σ Q) acc C) hc sc I4 (z1t a s2.heap.objs.size ob kvs) ⟨es,ep,.none,.none,hdat,by rw [hlen];exact Heap.get?_push_size _ rfl⟩ (fun b hb=>?_) hg ht he (fun l hl=>?_) ?_
 ·have z:b=s2.heap.objs.size:=by simpa using hb
  subst z
  exact I2.fpOk (ke _) (by rw [zd nea];exact itn)
 ·have hl1:H1 l=none:=by
   cases q:H1 l with
   | none=>rfl
   | some u=>
    by_cases z:l=a
    ·subst z;rw [z6] at hl;cases hl
    ·rw [zd z,q] at hl;cases hl
  obtain ⟨W,w0,turn⟩:=q1 ob l hl1
  refine ⟨W,w0,fun i m ys σ' H2 hW=>?_⟩
  obtain ⟨t1,t2,t3⟩:=turn i m ys σ' H2 hW
  by_cases hlt:i < kvs.length
  ·refine .inr ⟨⟨t1,hlt⟩,fun x H3 y=>?_⟩
   obtain ⟨p,k,v,rfl,hp,hkv,rfl⟩:=y
   exact t3 p k v hkv hp
  ·exact .inl ⟨⟨t1,by lia⟩,t1,t2 (by lia)⟩
 ·intro D C s' H' m I' n' c1 c2 c3 c4 c5 q'
  obtain ⟨q5,q6⟩:=q'
  refine ⟨m,n',fun h' hs'=>?_⟩
  have I5:=I'.turned (t':=s'.toks) (it:=C) (h':=h') (fun b o hb e=>(hs'.2 b hb).trans e) c2 c1 (.inr c3) c4 c5
  obtain ⟨hob5,ok5⟩:=(show qe X.prog X.w H' h' a (.frz ob (.dK kvs)) from I5.hok a _ q5)
  obtain ⟨z1,z2,vs',rel',dd'⟩:=(show qe X.prog X.w H' h' a (.dK kvs) from ok5)
  exact ⟨.ref D,_,I5.recast (u':=.dK kvs) q5 (fun _=>nofun) (fun _=>nofun) (fun _=>nofun) nf ⟨z1,z2,vs',rel',dd'⟩,rfl,q6⟩
theorem z4a {bs:List Bool} {us:List Value} (r:Vals (bs.map V.bl) us):us=bs.map Value.bool:=by
 induction bs generalizing us with
 | nil=>cases r;rfl
 | cons b bs ih=>
  cases r with
  | cons x y=>cases x;rw [ih y];rfl
theorem Jh (hc:X.calm=true):Zj X (.builtin "all") (fun xs H Q=>∃(p:Addr) (bs:List Bool),xs=[.ref p]∧SqL X.K H p (bs.map V.bl)∧Q (.bl (bs.all id)) H):=by
 intro pins s σ H xs us Q I r h
 obtain ⟨p,bs,rfl,hS,q⟩:=h
 obtain ⟨u,rfl,ru⟩:=QR r
 cases ru
 obtain ⟨its,rv,pl,hz⟩:=I.list hS
 obtain rfl:=z4a rv
 have hh:X.A.in1.handled=none:=I.ok.hd hc
 have hne:p≠s.heap.objs.size:=Nat.ne_of_lt (by obtain ⟨o,_,e,_⟩:=pl;exact Heap.lt_size e)
 refine call_all_walk (wpAny_pyIter_list pl.isList ?_)
 refine ⟨s.heap.objs.size,_,_,_,_,_,fun i=>(bs[i]?).getD true,rfl,Walks.list hh s.heap.objs.size p hne (bs.map Value.bool).toArray,⟨⟨_,Heap.get?_push_size _ rfl,rfl,rfl⟩,pl.isList.push _⟩,fun i v s' Q' E' hv hq=>?_,fun h' tk hk=>?_⟩
 ·have hv:(bs.map Value.bool).toArray[i]?=some v:=hv
  rw [List.getElem?_toArray,List.getElem?_map] at hv
  cases hb:bs[i]? with
  | none=>rw [hb] at hv;cases hv
  | some b=>
   rw [hb] at hv
   cases hv
   have hq:Q' ((bs[i]?).getD true) s':=hq
   rw [hb] at hq
   exact wpAny_truthy_bool hq
 ·have e:(List.range (bs.map Value.bool).toArray.size).all (fun i=>(bs[i]?).getD true)=bs.all id:=by
   rw [kE,kj,Bool.eq_iff_iff,List.all_eq_true,List.all_eq_true]
   constructor
   ·intro h b hb
    obtain ⟨i,hi⟩:=List.getElem?_of_mem hb
    have:=h i (List.mem_range.mpr (kf.mp hi).1)
    rw [hi] at this
    exact this
   ·intro h i hi
    rw [kK (List.mem_range.mp hi)]
    exact h _ (List.getElem_mem _)
  rw [e]
  refine ⟨.bl _,H,I.kept (t':=tk) fun b o e=>hk b o (fun z=>?_) (Heap.get?_push_of_some _ e),rfl,q⟩
  have:b=s.heap.objs.size:=by simpa using z
  rw [this] at e
  exact absurd (Heap.lt_size e) (Nat.lt_irrefl _)
theorem Jg:Zj X (.type "bool") (fun xs H Q=>∃x,xs=[x]∧((x=.non∧Q (.bl false) H)∨(∃b,x=.bl b∧Q (.bl b) H)∨(∃i,x=.int i∧Q (.bl (i != 0)) H)∨∃z,x=.str z∧z.length≤sizeLine∧Q (.bl ((z.length:Int) != 0)) H)):=by
 intro pins s σ H xs us Q I r h
 obtain ⟨x,rfl,h⟩:=h
 obtain ⟨u,rfl,ru⟩:=QR r
 rcases h with ⟨rfl,q⟩ | ⟨b,rfl,q⟩ | ⟨i,rfl,q⟩ | ⟨z,rfl,hz,q⟩
 ·cases ru;exact call_bool_none ⟨.bl false,H,I,rfl,q⟩
 ·cases ru;exact call_bool_bool ⟨.bl b,H,I,rfl,q⟩
 ·obtain ⟨t,rfl⟩:=ru;exact call_bool_int ⟨.bl _,H,I,rfl,q⟩
 ·obtain ⟨t,rfl⟩:=ru
  have:=Qc
  exact call_bool_str (by lia) ⟨.bl _,H,I.tok _,rfl,q⟩
def z7E (tab:List (Str × V)) (ty tx:TE):TE:=fun σ H Q=>ty σ H fun y H1=>tx σ H1 fun z H2=>∃x,y=.str x∧Q ((tab.lookup x).getD z) H2
theorem ZP {nm:Str} {e f:Expr} {p apos cpos:Pos} {d:Addr} {tab:List (Str × V)} {ty tx:TE} (T:KTab X.w.params X.K d tab) (hg:Gl X nm) (hm:X.mg nm=some (.ref d)) (he:PE X e ty) (hf:PE X f tx) (m:M2 X (.Name nm p) "get" apos e f cpos) (hd:autoParam ((nm == ("__debug__":Str))=false) aR._auto_2):
  PE X (.Call (.Attribute (.Name nm p) "get" apos) [e,f] [] cpos) (z7E tab ty tx):=by
 intro pins s σ H Q I h
 refine wpAny_Call_method m.base m.few m.line PySem.F.plainAttrs_dict PySem.F.slot_dict_get PySem.F.type_dict_get (Zs I hg hm ?_ hd)
 obtain ⟨es,n,hl,hk,hsy,hp⟩:=id T
 have ho:=I.kIn d _ hl
 refine ⟨⟨_,ho,rfl⟩,fun b z=>(by cases z;exact ⟨_,ho,rfl⟩),?_⟩
 rw [m.trees]
 refine Calls.callWith_builtin rfl (Calls.evalArgs_plain (Calls.spliced_cons (thn (he pins s σ H _ I h) fun iv s2 ⟨y,H2,I2,ry,q2⟩=>
  Calls.spliced_cons (thn (hf pins s2 σ H2 _ I2 q2) fun fv s3 ⟨z,H3,I3,rz,x,ex,q3⟩=>Calls.spliced_nil ?_))))
 subst ex
 obtain ⟨t,rfl⟩:=ry
 obtain ⟨fm,mo,_,hf⟩:=J7 (prog:=X.prog) (w:=X.w) rfl T I3.kIn
 refine call_meetsIn PySem.F.slot_dict_get mo.typeIs PySem.F.entry_dict_get (PySem.F.args_dict_get_3 _ _ _) (meets_dict_get_default (strKind X.prog X.w) d (strKind_is X.prog X.w x t) hsy fv) ⟨_,mo,_,H3,I3.tok _,(hf x).getD rz,q3⟩
theorem Jf {C:Addr} {k:Nat} {f:Addr} {fd:FuncData} {sp:Sp} (hs:PySem.W.findIn X.K (.ref C) "__len__"=some (some (.ref f))) (hfn:PySem.W.isFn X.K (.ref f)=true) (F:FnOk X.prog X.w X.K X.mg X.base CX0 k f fd ["self"] sp) (hr:Room k X.A.in1) (hb:jE X.K fd ["self"] []):
  Zj X (.builtin "len") (fun xs H Q=>∃a dx fs,xs=[.ref a]∧H a=some (.ins C dx fs)∧sp [.ref a] H (fun v H1=>∃n:Nat,v=.int n∧n≤1000000∧Q (.int n) H1) E0):=by
 intro pins s σ H xs us Q I r h
 obtain ⟨a,dx,fs,rfl,ha,q⟩:=h
 obtain ⟨u,rfl,ru⟩:=QR r
 cases ru
 obtain ⟨m,FF⟩:=I.fr
 obtain ⟨_,_,_,e,mA,⟨od,es,ep,e2,_⟩,_⟩:=(show qe X.prog X.w H s.heap a (.ins C dx fs) from I.hok a _ ha)
 refine PySem.W.len_K FF I.ok.mod.kin (ox:=PySem.W.instObj C dx) (od:=some od) ⟨e,rfl,rfl,e2⟩ hs hfn ?_
 refine wpAny_call (codeAny_mono (F.run X.A.in1 X.stack s H ⟨[.ref a],[]⟩ [.ref a] [.ref a] _ E0 hr I.env0.in1 (hb s [.ref a] I.kIn rfl) (.cons rfl .nil) q) fun r s' hq=>?_)
 cases r with
 | error e=>exact (show False from hq).elim
 | ok fl=>
  cases fl with
  | ret u=>
   obtain ⟨v,H',I',rv,n,rfl,hn,q'⟩:=I.after hq
   obtain ⟨t,rfl⟩:=rv
   exact ⟨⟨by lia,by lia⟩,.int n,H',I'.tok _,⟨_,rfl⟩,q'⟩
  | next=>exact False.elim hq
  | brk=>exact False.elim hq
  | cont=>exact False.elim hq
end
end L2
namespace L2
open PySem PySem.Spec PyProof.Rows
section
variable {X:Cx}
theorem PSs.imp {st:List Stmt} {t t':TS} (h:PSs X st t) (hi:∀D σ H,t' D σ H→t D σ H):PSs X st t':=fun pins s σ H D I q=>h pins s σ H D I (hi D σ H q)
noncomputable def qq:V→PyData
 | .int i=>.int i
 | .str x=>.str x
 | .bl b=>.bool b
 | _=>.none
theorem z1Y {h:Heap} {x:V} {u:Value} (f:jB x=true) (r:RelV x u):Reads h u (qq x) []:=by
 cases x with
 | non=>cases r;exact .none
 | bl b=>cases r;exact .bool b
 | int i=>obtain ⟨t,rfl⟩:=r;exact .int i t
 | str z=>obtain ⟨t,rfl⟩:=r;exact .str z t
 | _=>cases f
theorem z0F (x:V):(qq x).hasDict=false∧(qq x).depth=0:=by
 cases x <;> exact ⟨by simp only [qq,PyData.hasDict],by simp only [qq,PyData.depth]⟩
theorem qH:∀xs:List V,PyData.hasDictAll (xs.map qq)=false∧PyData.depthAll (xs.map qq)=0
 | []=>⟨by simp only [List.map_nil,PyData.hasDictAll],by simp only [List.map_nil,PyData.depthAll]⟩
 | x :: xs=>by
  obtain ⟨a,b⟩:=z0F x
  obtain ⟨c,d⟩:=qH xs
  exact ⟨by simp only [kS,PyData.hasDictAll,a,c,Bool.or_self],by simp only [kS,PyData.depthAll,b,d];rfl⟩
end
end L2
namespace L2
open PySem PySem.Spec PyProof.Rows
mutual
inductive RdV (K:ky) (H:Hp):V→PyData→Prop where
 | flat {x:V} (f:jB x=true):RdV K H x (qq x)
 | tup {a:Addr} {xs:List V} {ds:List PyData} (h:SqT K H a xs) (r:RdVs K H xs ds):RdV K H (.ref a) (.tuple ds)
 | lst {a:Addr} {xs:List V} {ds:List PyData} (h:SqL K H a xs) (r:RdVs K H xs ds):RdV K H (.ref a) (.list ds)
inductive RdVs (K:ky) (H:Hp):List V→List PyData→Prop where
 | nil:RdVs K H [] []
 | cons {x:V} {d:PyData} {xs:List V} {ds:List PyData} (h:RdV K H x d) (t:RdVs K H xs ds):RdVs K H (x :: xs) (d :: ds)
end
section
variable {X:Cx} {pins:List (Addr × Obj)} {σ:St} {H:Hp} {s:Shared}
mutual
theorem QY (I:Inv X pins σ H s) {x:V} {u:Value} {d:PyData} (r:RelV x u) (h:RdV X.K H x d):∃as,Reads s.heap u d as:=by
 cases h with
 | flat f=>exact ⟨_,z1Y f r⟩
 | tup h t=>
  cases r
  obtain ⟨its,rv,⟨o,ho,hc,m,hd⟩,_⟩:=I.tuple h
  obtain ⟨as,q⟩:=ZZ I rv t
  exact ⟨_,.tuple ho hc hd q⟩
 | lst h t=>
  cases r
  obtain ⟨its,rv,⟨o,m,ho,hc,_,hd⟩,_⟩:=I.list h
  obtain ⟨as,q⟩:=ZZ I rv t
  exact ⟨_,.list ho hc hd q⟩
theorem ZZ (I:Inv X pins σ H s) {xs:List V} {us:List Value} {ds:List PyData} (r:Vals xs us) (h:RdVs X.K H xs ds):∃as,ReadsAll s.heap us ds as:=by
 cases h with
 | nil=>cases r;exact ⟨_,.nil⟩
 | cons h t=>
  cases r with
  | cons r1 r2=>
   obtain ⟨as,q1⟩:=QY I r1 h
   obtain ⟨bs,q2⟩:=ZZ I r2 t
   exact ⟨_,.cons q1 q2⟩
end
end
noncomputable def z5L (d:PyData):Bool:=d.showable&& !d.hasDict&&decide (d.depth≤5)&&decide (d.shown.length≤2000)
def z7B (K:ky) (t:TE):TE:=fun σ H Q=>t σ H fun x H1=>∃a d,x=.ref a∧RdV K H1 x d∧z5L d=true∧Q (.str d.shown) H1
theorem z8N {X:Cx} {value:Expr} {pos:Pos} {t:TE} (hr:Room 1 X.A) (h:PE X value t):PE X (.FormattedValue value (-1) none pos) (z7B X.K t):=by
 intro pins s σ H Q I hq
 refine wpAny_FormattedValue_plain (thn (h pins s σ H _ I hq) fun v s1 h1=>?_)
 have hg:=hr.gd
 have hu:=hr.un
 obtain ⟨x,H1,I1,r1,a,d,rfl,hR,hk,q⟩:=h1
 cases r1
 obtain ⟨as,rr⟩:=QY I1 (x:=.ref a) (u:=.ref a) rfl hR
 unfold z5L at hk
 simp only [yc,yd,Bool.not_eq_true'] at hk
 obtain ⟨⟨⟨k1,k2⟩,k3⟩,k4⟩:=hk
 refine formatField_of_reads rr k1 (PyData.noDict_hsm k2) hg (by lia) (fun _ _ e=>e) (fun h' u tk hk=>?_) ?_
 ·exact ⟨.str _,H1,I1.kept hk,⟨_,rfl⟩,q⟩
 ·rw [sizeLine_eq]
  lia
end L2
namespace L2
open PySem PySem.Spec PyProof.Rows
section
variable {X:Cx}
abbrev CW' (K:ky) (x y:V) (H:Hp) (b:Bool):Prop:=∃(p q:Addr) (z w:Str) (rest:List V),x=.ref p∧y=.ref q∧SqT K H p (.str z :: rest)∧SqT K H q [.str w]∧b=(decide (z=w)&&rest.isEmpty)
theorem cmpW {pins:List (Addr × Obj)} {σ:St} {H:Hp} {s:Shared} (I:Inv X pins σ H s) {p q:Addr} {z w:Str} {rest:List V} (h1:SqT X.K H p (.str z :: rest)) (h2:SqT X.K H q [.str w]):
  ∃i1 i2:Array Value,s.heap.IsTuple p i1∧s.heap.IsTuple q i2∧(∀(A:Around) (j:Nat) (g1:j < i1.size) (g2:j < i2.size),SeqAt.EqAt A s i1[j] i2[j] (z == w))∧((List.range (min i1.size i2.size)).all (fun _=>z == w)&&i1.size == i2.size)=(decide (z=w)&&rest.isEmpty):=by
 obtain ⟨its,r,pl,_⟩:=I.tuple h1
 obtain ⟨its2,r2,pl2,_⟩:=I.tuple h2
 cases r with
 | cons a b=>
  obtain ⟨t,rfl⟩:=a
  cases r2 with
  | cons a2 b2=>
   obtain ⟨t2,rfl⟩:=a2
   cases b2
   refine ⟨_,_,pl,pl2,fun A j g1 g2=>?_,?_⟩
   ·have e:j=0:=by simp at g2;exact g2
    subst e
    exact SeqAt.EqAt.str_str (A:=A) (s:=s) z t w t2
   ·have hl:=b.length
    have e1:(z == w)=decide (z=w):=by
     rw [Bool.eq_iff_iff]
     simp
    cases b with
    | nil=>simp [e1]
    | cons c d=>simp [e1]
def rEqW (K:ky):R2:=fun x y H Q=>∃b,CW' K x y H b∧Q (.bl b) H
theorem z89 (hu:X.A.units < cLine):OpR X (compareOp .Eq) (rEqW X.K):=by
 intro pins s σ H x y v u Q I rx ry h
 obtain ⟨b,⟨p,q,z,w,rest,rfl,rfl,h1,h2,hb⟩,hq⟩:=h
 cases rx
 cases ry
 obtain ⟨i1,i2,a,b',c,d⟩:=cmpW I h1 h2
 refine SeqAt.eq_tupleAt (e:=fun _=>z == w) a b' hu (c _) ⟨.bl _,H,I,rfl,?_⟩
 rw [d,←hb]
 exact hq
end
structure z1p (d:PyData):Prop where
 sh:d.showable=true
 nd:d.hasDict=false
 dp:d.depth≤5
 ln:d.shown.length≤100000
def z7A (K:ky) (t:TE):TE:=fun σ H Q=>t σ H fun x H1=>∃a d,x=.ref a∧RdV K H1 x d∧z1p d∧Q (.str d.shown) H1
theorem z4u {X:Cx} {value:Expr} {pos:Pos} {t:TE} (hr:Room 1 X.A) (h:PE X value t):PE X (.FormattedValue value (-1) none pos) (z7A X.K t):=by
 intro pins s σ H Q I hq
 refine wpAny_FormattedValue_plain (thn (h pins s σ H _ I hq) fun v s1 h1=>?_)
 have hg:=hr.gd
 have hu:=hr.un
 obtain ⟨x,H1,I1,r1,a,d,rfl,hR,⟨k1,k2,k3,k4⟩,q⟩:=h1
 cases r1
 obtain ⟨as,rr⟩:=QY I1 (x:=.ref a) (u:=.ref a) rfl hR
 refine formatField_of_reads rr k1 (PyData.noDict_hsm k2) hg (by lia) (fun _ _ e=>e) (fun h' u tk hk=>?_) ?_
 ·exact ⟨.str _,H1,I1.kept hk,⟨_,rfl⟩,q⟩
 ·rw [sizeLine_eq]
  lia
theorem jX {K:ky} {H:Hp}:∀{xs:List V},xs.all jB=true→RdVs K H xs (xs.map qq)
 | [],_=>.nil
 | x :: xs,h=>by
  rw [List.all_cons,yc] at h
  exact .cons (.flat h.1) (jX h.2)
def qm (x:V):Prop:=jB x=true∧(qq x).showable=true∧(qq x).shown.length≤60
theorem qK:∀{xs:List V},(∀x∈xs,qm x)→xs.all jB=true∧PyData.showableAll (xs.map qq)=true∧((PyData.shownAll (xs.map qq)).map (fun t=>t.length)).sum≤60 * xs.length∧(PyData.shownAll (xs.map qq)).length=xs.length
 | [],_=>⟨rfl,by simp only [List.map_nil,PyData.showableAll],by simp only [List.map_nil,PyData.shownAll];decide,by simp only [List.map_nil,PyData.shownAll];rfl⟩
 | x :: xs,h=>by
  obtain ⟨a,b,c,d⟩:=qK (xs:=xs) fun y hy=>h y (kQ _ hy)
  obtain ⟨e,f,g⟩:=h x (kP ..)
  refine ⟨by rw [List.all_cons,e,a];rfl,by simp only [kS,PyData.showableAll,f,b,Bool.and_self],?_,?_⟩
  ·simp only [kS,PyData.shownAll,List.sum_cons,kO]
   lia
  ·simp only [kS,PyData.shownAll,kO]
   lia
theorem z2C {xs:List V} (h:∀x∈xs,qm x) (hl:xs.length≤1000):z1p (.list (xs.map qq)):=by
 obtain ⟨a,b,c,d⟩:=qK h
 obtain ⟨e,f⟩:=qH xs
 refine ⟨by simp only [PyData.showable];exact b,by simp only [PyData.hasDict];exact e,by simp only [PyData.depth,f];lia,?_⟩
 simp only [PyData.shown]
 have:=listText_len_le (PyData.shownAll (xs.map qq))
 lia
end L2
namespace L2
open PySem PySem.Spec PyProof.Rows
theorem ZV:∀{ns:List Int} {us:List Value},us.length=ns.length→(∀(j:Nat) v,us[j]?=some v→∃t,∃i,ns[j]?=some i∧v=Value.int i t)→Vals (ns.map V.int) us
 | [],[],_,_=>.nil
 | [],_ :: _,h,_=>by cases h
 | _ :: _,[],h,_=>by cases h
 | n :: ns,u :: us,h,g=>by
  obtain ⟨t,i,e1,e2⟩:=g 0 u rfl
  cases e1
  refine .cons ⟨t,e2⟩ (ZV (by simpa using h) fun j v e=>?_)
  obtain ⟨t,i,e1,e2⟩:=g (j+1) v (by simpa using e)
  exact ⟨t,i,by simpa using e1,e2⟩
section
variable {X:Cx}
def z6y:V→List V→Hp→VK→Prop:=fun x vs H Q=>∃(l:Addr) (ns:List Int) (i:Int) (j:Nat),x=.ref l∧vs=[.int i]∧H l=some (.lst (ns.map V.int))∧ns[j]?=some i∧(∀m,m < j→ns[m]?≠some i)∧ns.length≤1000∧Q (.int (j:Nat)) H
theorem z3e:MtM X "list.index" z6y:=by
 intro pins s σ H x vs v us Q I rx rv h
 obtain ⟨l,ns,i,j,rfl,rfl,hH,hj,hno,hz,q⟩:=h
 cases rx
 obtain ⟨u,rfl,t,rfl⟩:=rv.one
 obtain ⟨z,its,n,r,hl,e⟩:=I.lstM hH
 rw [kj] at hl
 have at_:∀(m:Nat) (hm:m < its.toArray.size),∃k tk,ns[m]?=some k∧its.toArray[m]=.int k tk:=fun m hm=>by
  have hm:m < its.length:=by simpa using hm
  have k1:m < ns.length:=by lia
  obtain ⟨u,e1,tk,r1⟩:=r.get (show (ns.map V.int)[m]?=some (.int ns[m]) by simp [k1])
  refine ⟨ns[m],tk,by simp [k1],?_⟩
  have:=kK hm
  rw [e1] at this
  rw [←r1]
  simpa using (kB this).symm
 have hjl:j < ns.length:=(kf.mp hj).1
 refine call_meets F.slot_list_index ⟨_,e,rfl⟩ F.entry_list_index (F.args_list_index_2 _ _)
  (SeqAt.list_indexAt l its.toArray n none #[] (.int i t) (fun y=>match y with | .int k _=>k == i | _=>false) j (by rw [kE];lia) (by lia) ?_ ?_) ⟨e,?_,?_⟩
 ·obtain ⟨k,tk,e1,e2⟩:=at_ j (by rw [kE];lia)
  rw [e2]
  rw [hj] at e1
  cases e1
  simp
 ·intro m hm hlt
  obtain ⟨k,tk,e1,e2⟩:=at_ m hm
  rw [e2]
  have:=hno m hlt
  rw [e1] at this
  simpa using fun z=>this (by rw [z])
 ·intro y hy
  obtain ⟨m,hm,rfl⟩:=Array.mem_iff_getElem.mp hy
  obtain ⟨k,tk,e1,e2⟩:=at_ m hm
  rw [e2]
  exact SeqAt.EqAt.int_int _ _ _ _
 ·exact ⟨.int (j:Nat),H,I.tok _,⟨_,rfl⟩,q⟩
def z4h (ta:TA):TE:=fun σ H Q=>ta σ H fun vs H1=>∃n:Nat,vs=[.int (n:Nat)]∧n≤1000∧∀l,H1 l=none→Q (.ref l) (upd H1 l (.lst (((List.range n).map fun i:Nat=>(i:Int)).map V.int)))
theorem QF {a:Expr} {ta:TA} {p p2 pos pos2:Pos} (hc:X.calm=true) (hl:Gl X "list") (hml:X.mg "list"=none) (hg:Gl X "range") (hm:X.mg "range"=none) (ha:PA X [a] ta)
  (hs:autoParam (starEach [a] X.env=[(false,eval a X.env)]) aR._auto_1) (hs2:autoParam (starEach [.Call (.Name "range" p2) [a] [] pos2] X.env=[(false,eval (.Call (.Name "range" p2) [a] [] pos2) X.env)]) aR._auto_1):
  PE X (.Call (.Name "list" p) [.Call (.Name "range" p2) [a] [] pos2] [] pos) (z4h ta):=by
 intro pins s σ H Q I h
 refine wpAny_Call_Name_kw (ZD I hl hml (show bootBuiltins "list"=some (.type "list") by trivial) ?_ (by decide) (by decide))
 refine PyProof.Rows.callWith_type1 ?_ hs2 rfl
 rw [hs2]
 show wpAny _ _ (spliced ((false,eval (.Call (.Name "range" p2) [a] [] pos2) X.env) :: [])) _ _ s
 refine Calls.spliced_cons ?_
 refine Call_ (ZD I hg hm boot_range (PyProof.Rows.callWith_type1 (thn (ha pos2 pins s σ H _ I h) fun us s1 ⟨vs,H1,I1,r1,q1⟩=>?_) hs rfl))
 obtain ⟨n,e,hn,q⟩:=q1
 subst e
 cases r1 with
 | cons r rr=>
  cases rr
  obtain ⟨t,rfl⟩:=r
  refine call_range_1 ?_
  refine Calls.spliced_nil ?_
  have I2:Inv X pins σ H1 { s1 with heap:=s1.heap.push { cls:=.type "range",data:=.fields #[.int 0 s1.toks,.int (n:Nat) t,.int 1 (s1.toks+1)] },toks:=s1.toks+1+1 }:=I1.kept fun b o e=>Heap.get?_push_of_some _ e
  refine call_list_range (s:={ s1 with heap:=s1.heap.push { cls:=.type "range",data:=.fields #[.int 0 s1.toks,.int (n:Nat) t,.int 1 (s1.toks+1)] },toks:=s1.toks+1+1 }) (n:=n) (I.ok.hd hc) (IsRange.new ..) (small_one (by lia) (by lia) (by lia) (by lia)) ?_ (by lia) fun h' tk acc' c' hk hS hacc=>?_
  ·rw [rangeSize_one];split <;> lia
  have hlen:acc'.toList.length=((List.range n).map fun i:Nat=>(i:Int)).length:=by
   rw [Array.length_toList,hacc.1,kj,List.length_range]
  have rv:Vals (((List.range n).map fun i:Nat=>(i:Int)).map V.int) acc'.toList:=ZV hlen fun j v e=>by
   have hj:j < n:=by
    have:=(kf.mp e).1
    rw [hlen,kj,List.length_range] at this
    exact this
   obtain ⟨t,e2⟩:=hacc.2 j v (by simpa using e)
   refine ⟨t,(j:Int),by simp [hj],?_⟩
   rw [e2]
   congr 1
   lia
  have hz:(((List.range n).map fun i:Nat=>(i:Int)).map V.int).length≤sizeLine:=by
   rw [kj,kj,List.length_range,sizeLine_eq]
   lia
  refine ⟨.ref _,_,I2.laid (t':=tk) hk (ke _) (show qe X.prog X.w _ _ _ (.lst (((List.range n).map fun i:Nat=>(i:Int)).map V.int)) from ⟨hz,acc'.toList,c',rv,?_⟩),rfl,q _ (I2.hok.fresh (ke _))⟩
  rw [hS]
end
end L2
namespace L2
open PySem PySem.Spec PyProof.Rows
theorem Inv.turnedL {X:Cx} {pins:List (Addr × Obj)} {σ:St} {H:Hp} {s:Shared} {h':Heap} {t':Nat} {es:List Addr} {xs:List V} (I:Inv X pins σ H s) (k:∀b o,b∉es→s.heap.get? b=some o→h'.get? b=some o)
  (fe:∀b∈es,FpOk X pins H b) (new:qe X.prog X.w (upd H s.heap.objs.size (.tup xs)) h' s.heap.objs.size (.tup xs)):
  Inv X pins σ (upd H s.heap.objs.size (.tup xs)) { s with heap:=h',toks:=t' }:=by
 have hn:=I.fresh
 have nit:∀b u,H b=some u→b∉es:=fun b u q z=>by have:=(fe b z).1;rw [this] at q;cases q
 refine I.step (g':=s.gens) (d':=s.drawn) (ch:=es) (fun b hb=>?_) (fun b o _ _ hc q _=>k b o hc q) (fun b o _ _ hc q _=>⟨o.slots,k b o hc q⟩) (fun b o _ q n=>?_)
  (fun b o hc q=>⟨o,k b o hc q⟩) (fun b xs q=>by rw [zd (zc q hn)];exact q) (fun b o u q=>by rw [zd (zc q hn)];exact q) (fun b ps q=>⟨#[],by rw [zd (zc q hn),q];simp⟩) (fun m hm'=>?_) (fun b u q=>?_) I.bare
 ·have f:=fe b hb
  exact ⟨f.2.2.2.1,f.2.1,f.2.2.2.2.1,f.2.2.2.2.2⟩
 ·rw [zd (Nat.ne_of_lt (Heap.lt_size q))];exact n
 ·obtain ⟨o,es',ep,ho,r⟩:=hm'
  exact ⟨o,es',ep,k _ o (fun z=>(fe _ z).2.1 rfl) ho,r⟩
 ·by_cases hb:b=s.heap.objs.size
  ·subst hb;rw [z6] at q;cases q;exact new
  ·rw [zd hb] at q
   refine (I.hok b u q).stay (fun c v hc z=>?_) (fun c z=>by rw [zd (zc z hn)];exact z) fun c xs z=>by rw [zd (zc z hn)];exact z
   rcases hc with y | y
   ·subst y;exact k c v (nit c u q) z
   ·exact k c v (nit c _ y) z
theorem Inv.turnedE {X:Cx} {pins:List (Addr × Obj)} {σ:St} {H:Hp} {s:Shared} {h':Heap} {t':Nat} {es:List Addr} (I:Inv X pins σ H s) (k:∀b o,b∉es→s.heap.get? b=some o→h'.get? b=some o)
  (fe:∀b∈es,FpOk X pins H b):Inv X pins σ H { s with heap:=h',toks:=t' }:=by
 have nit:∀b u,H b=some u→b∉es:=fun b u q z=>by have:=(fe b z).1;rw [this] at q;cases q
 refine I.step (g':=s.gens) (d':=s.drawn) (ch:=es) (fun b hb=>?_) (fun b o _ _ hc q _=>k b o hc q) (fun b o _ _ hc q _=>⟨o.slots,k b o hc q⟩) (fun _ _ _ _ n=>n)
  (fun b o hc q=>⟨o,k b o hc q⟩) (fun _ _ e=>e) (fun _ _ _ e=>e) (fun b ps e=>⟨#[],by rw [e];simp⟩) (fun m hm'=>?_) (fun b u q=>?_) I.bare
 ·have f:=fe b hb
  exact ⟨f.2.2.2.1,f.2.1,f.2.2.2.2.1,f.2.2.2.2.2⟩
 ·obtain ⟨o,es',ep,ho,r⟩:=hm'
  exact ⟨o,es',ep,k _ o (fun z=>(fe _ z).2.1 rfl) ho,r⟩
 ·refine (I.hok b u q).stay (fun c v hc z=>?_) (fun _ z=>z) fun _ _ z=>z
  rcases hc with y | y
  ·subst y;exact k c v (nit c u q) z
  ·exact k c v (nit c _ y) z
noncomputable def Itz (K:ky) (a b:Addr):It:=
 ⟨fun i H=>∃xs ys x y,SqL K H a xs∧SqL K H b ys∧xs[i]?=some x∧ys[i]?=some y,fun i H x H'=>∃p y z,x=.ref p∧H p=none∧H'=upd H p (.tup [y,z])∧(∀xs,SqL K H a xs→xs[i]?=some y)∧∀ys,SqL K H b ys→ys[i]?=some z,
  fun i H=>∃xs ys,SqL K H a xs∧SqL K H b ys∧(xs.length≤i∨ys.length≤i)⟩
theorem z4e {P:Program} {w:World} {K:ky} {elts:List Expr} {x1} {pos:Pos} (a b z TI TO i1 i2:Addr) (D:ZipApart z TI TO i1 i2 a b):
  Turn P w K (.Tuple elts x1 pos) (Itz K a b) [z,TI,TO,i1,i2] z (fun i h=>IsZip h z TI TO .none∧IsPair h TI (.ref i1) (.ref i2)∧(∃u v,IsPair h TO u v)∧h.IsListIter i1 a i∧h.IsListIter i2 b i) where
 mem:=by simp
 obj:=fun i h st c hc=>by
  obtain ⟨q1,q2,⟨u,v,q3⟩,⟨o4,q4,c4,d4⟩,⟨o5,q5,c5,d5⟩⟩:=st
  simp only [kD,kq,or_false] at hc
  rcases hc with rfl | rfl | rfl | rfl | rfl
  ·exact ⟨_,q1,fun v y=>by cases y⟩
  ·exact ⟨_,q2,fun v y=>by cases y⟩
  ·exact ⟨_,q3,fun v y=>by cases y⟩
  ·exact ⟨_,q4,fun v y=>by rw [d4] at y;cases y⟩
  ·exact ⟨_,q5,fun v y=>by rw [d5] at y;cases y⟩
 keep:=fun i h h' st k=>by
  obtain ⟨q1,q2,⟨u,v,q3⟩,q4,q5⟩:=st
  exact ⟨k z (by simp) _ q1,k TI (by simp) _ q2,⟨u,v,k TO (by simp) _ q3⟩,q4.at fun o q=>k i1 (by simp) o q,q5.at fun o q=>k i2 (by simp) o q⟩
 item:=by
  intro X hP hw hK hc i pins s σ H E I hf st hg
  subst hP hw hK
  obtain ⟨xs,ys,x,y,hq1,hq2,hx,hy⟩:=hg
  obtain ⟨its1,rv1,p1,hz1⟩:=I.list hq1
  obtain ⟨u1,hu1,ru1⟩:=rv1.get hx
  obtain ⟨its2,rv2,p2,hz2⟩:=I.list hq2
  obtain ⟨u2,hu2,ru2⟩:=rv2.get hy
  obtain ⟨q1,q2,⟨a',b',q3⟩,q4,q5⟩:=st
  refine wpAny_pyNext_zip_item D q1 q2 q3 q4 q5 p1.isList p2.isList (x:=u1) (y:=u2) (by simpa using hu1) (by simpa using hu2) fun h' g1 g2 g3 g4 g5 g6 g7=>?_
  refine ⟨_,rfl,?_⟩
  have new:qe X.prog X.w (upd H s.heap.objs.size (.tup [x,y])) h' s.heap.objs.size (.tup [x,y]):=⟨by show 2≤sizeLine;decide,[u1,u2],.cons ru1 (.cons ru2 .nil),_,g5,rfl,_,rfl⟩
  have hk:∀b o,b∉[z,TI,TO,i1,i2]→s.heap.get? b=some o→h'.get? b=some o:=fun b o hb e=>g7 b o (fun y=>hb (by simp [y])) (fun y=>hb (by simp [y])) (fun y=>hb (by simp [y])) (fun y=>hb (by simp [y])) e
  have I1:Inv X pins σ (upd H s.heap.objs.size (.tup [x,y])) { s with heap:=h',toks:=s.toks }:=I.turnedL hk hf new
  have q2':IsPair h' TI (.ref i1) (.ref i2):=g7 _ _ D.TIz D.TITO D.TIi1 D.TIi2 q2
  refine wpAny_letOwnedTupleGo_zip (s:={ s with heap:=h' }) g1 fun h2 he2 hs2=>?_
  have lt:∀c∈[z,TI,TO,i1,i2],c≠s.heap.objs.size:=fun c hc e=>by
   have:∃o,s.heap.get? c=some o:=by
    simp only [kD,kq,or_false] at hc
    rcases hc with rfl | rfl | rfl | rfl | rfl
    ·exact ⟨_,q1⟩
    ·exact ⟨_,q2⟩
    ·exact ⟨_,q3⟩
    ·exact ⟨_,q4.choose_spec.1⟩
    ·exact ⟨_,q5.choose_spec.1⟩
   obtain ⟨o,ho⟩:=this
   have:=Heap.lt_size ho
   rw [e] at this
   exact Nat.lt_irrefl _ this
  have fz:=hf z (by simp)
  refine ⟨.ref s.heap.objs.size,_,I1.turned (t':=s.toks) (it:=z) (fun b o hb q=>(hs2.2 b hb).trans q) (by rw [zd (lt z (by simp))];exact fz.1) fz.2.1 fz.2.2.2.1 fz.2.2.2.2.1 fz.2.2.2.2.2,rfl,
   ⟨_,x,y,rfl,I.fresh,rfl,fun zs h=>by rw [I.list_inj h hq1];exact hx,fun zs h=>by rw [I.list_inj h hq2];exact hy⟩,⟨he2,(hs2.2 TI D.TIz).trans q2',⟨_,_,(hs2.2 TO D.TOz).trans g2⟩,g3.at fun o q=>(hs2.2 i1 D.i1z).trans q,g4.at fun o q=>(hs2.2 i2 D.i2z).trans q⟩,fun b hb=>?_⟩
  rw [zd (lt b hb)]
  exact (hf b hb).1
 done:=by
  intro X hP hw hK hc i pins s σ H E I hf st hg
  subst hP hw hK
  obtain ⟨xs,ys,hq1,hq2,hend⟩:=hg
  obtain ⟨its1,rv1,p1,hz1⟩:=I.list hq1
  obtain ⟨its2,rv2,p2,hz2⟩:=I.list hq2
  obtain ⟨q1,q2,⟨a',b',q3⟩,q4,q5⟩:=st
  have l1:=rv1.length
  have l2:=rv2.length
  exact wpAny_pyNext_zip_end (I.ok.hd hc) D q1 q2 q3 q4 q5 p1.isList p2.isList (by simp;lia) fun h' hk=>⟨rfl,I.turnedE (t':=s.toks) (fun b o hb e=>hk b o (fun y=>hb (by simp [y])) (fun y=>hb (by simp [y])) (fun y=>hb (by simp [y])) (fun y=>hb (by simp [y])) e) hf⟩
 self:=fun _ _ _ _ _ st h=>wpAny_pyIter_zip st.1 h
theorem z28 {n l1 l2:Nat} (h1:l1 < n) (h2:l2 < n):ZipApart (n+4) (n+2) (n+3) n (n+1) l1 l2:=by
 constructor
 all_goals (show ¬((_:Nat)=_);lia)
theorem z5o:bootBuiltins "zip"=some (.type "zip"):=by trivial
section
variable {X:Cx}
def iZip (K:ky) (ta:TA):TI:=fun σ H R=>ta σ H fun vs H1=>∃a b,vs=[.ref a,.ref b]∧(∃xs,SqL K H1 a xs)∧(∃ys,SqL K H1 b ys)∧R (Itz K a b) H1
theorem z80 {a b:Expr} {ta:TA} {p pos:Pos} {elts:List Expr} {x1} {tp:Pos} (hg:Gl X "zip") (hm:X.mg "zip"=none) (ha:PA X [a,b] ta) (hs:autoParam (starEach [a,b] X.env=[(false,eval a X.env),(false,eval b X.env)]) aR._auto_1) (hs2:autoParam (starEach [b] X.env=[(false,eval b X.env)]) aR._auto_1):PI X (.Tuple elts x1 tp) (.Call (.Name "zip" p) [a,b] [] pos) (iZip X.K ta):=by
 intro pins s σ H R I h
 refine Call_ (ZD I hg hm z5o (PyProof.Rows.callWith_type1 (thn (ha pos pins s σ H _ I h) fun us s1 ⟨vs,H1,I1,r1,q1⟩=>?_) (by rw [hs,hs2]) (by rw [hs2];rfl)))
 obtain ⟨l1,l2,e,⟨xs,hq1⟩,⟨ys,hq2⟩,q⟩:=q1
 subst e
 obtain ⟨u1,u2,rfl,ru1,ru2⟩:=Vals.two r1
 cases ru1
 cases ru2
 obtain ⟨its1,rv1,p1,hz1⟩:=I1.list hq1
 obtain ⟨its2,rv2,p2,hz2⟩:=I1.list hq2
 have lt1:l1 < s1.heap.objs.size:=by obtain ⟨o,ho,_⟩:=p1.isList;exact Heap.lt_size ho
 have lt2:l2 < s1.heap.objs.size:=by obtain ⟨o,ho,_⟩:=p2.isList;exact Heap.lt_size ho
 refine call_zip_2 p1.isList p2.isList fun h' g1 g2 g3 g4 g5 g6 hk=>?_
 refine wpAny_pyIter_zip (s:={ s1 with heap:=h' }) g1 ?_
 have I2:Inv X pins σ H1 { s1 with heap:=h' }:=I1.kept (t':=s1.toks) hk
 have D:ZipApart (s1.heap.objs.size+4) (s1.heap.objs.size+2) (s1.heap.objs.size+3) s1.heap.objs.size (s1.heap.objs.size+1) l1 l2:=z28 lt1 lt2
 refine ⟨s1.heap.objs.size+4,[s1.heap.objs.size+4,s1.heap.objs.size+2,s1.heap.objs.size+3,s1.heap.objs.size,s1.heap.objs.size+1],_,_,H1,rfl,I2,z4e l1 l2 _ _ _ _ _ D,⟨g1,g2,⟨_,_,g3⟩,g4,g5⟩,fun b hb=>?_,q⟩
 have hb:s1.heap.objs.size≤b:=by
  simp only [kD,kq,or_false] at hb
  rcases hb with rfl | rfl | rfl | rfl | rfl
  ·exact Nat.le_add_right _ _
  ·exact Nat.le_add_right _ _
  ·exact Nat.le_add_right _ _
  ·exact ke _
  ·exact Nat.le_add_right _ _
 exact I1.fpOk hb (I1.hok.fresh hb)
end
end L2
namespace L2
open PySem PySem.Spec PyProof.Rows
section
variable {X:Cx}
end
end L2
namespace L2
open PySem PySem.Spec PyProof.Rows
section
variable {X:Cx}
end
end L2
namespace L2
open PySem PySem.Spec PyProof.Rows
section
variable {X:Cx}
end
end L2
theorem zU0 {C:List PySem.Value→Prop} (h:C []):∀us:List PySem.Value,us.length=0→C us:=by
 intro us hl
 cases us with
 | nil=>exact h
 | cons a t=>exact absurd hl (Nat.succ_ne_zero _)
theorem zU1 {C:List PySem.Value→Prop} (h:∀a,C [a]):∀us:List PySem.Value,us.length=1→C us:=by
 intro us hl
 cases us with
 | nil=>exact absurd hl.symm (Nat.succ_ne_zero _)
 | cons a t=>exact zU0 (C:=fun t=>C (a :: t)) (h a) t (Nat.succ.inj hl)
theorem zU2 {C:List PySem.Value→Prop} (h:∀a b,C [a,b]):∀us:List PySem.Value,us.length=2→C us:=by
 intro us hl
 cases us with
 | nil=>exact absurd hl.symm (Nat.succ_ne_zero _)
 | cons a t=>exact zU1 (C:=fun t=>C (a :: t)) (h a) t (Nat.succ.inj hl)
theorem zU3 {C:List PySem.Value→Prop} (h:∀a b c,C [a,b,c]):∀us:List PySem.Value,us.length=3→C us:=by
 intro us hl
 cases us with
 | nil=>exact absurd hl.symm (Nat.succ_ne_zero _)
 | cons a t=>exact zU2 (C:=fun t=>C (a :: t)) (h a) t (Nat.succ.inj hl)
theorem zU4 {C:List PySem.Value→Prop} (h:∀a b c d,C [a,b,c,d]):∀us:List PySem.Value,us.length=4→C us:=by
 intro us hl
 cases us with
 | nil=>exact absurd hl.symm (Nat.succ_ne_zero _)
 | cons a t=>exact zU3 (C:=fun t=>C (a :: t)) (h a) t (Nat.succ.inj hl)
theorem zU5 {C:List PySem.Value→Prop} (h:∀a b c d e,C [a,b,c,d,e]):∀us:List PySem.Value,us.length=5→C us:=by
 intro us hl
 cases us with
 | nil=>exact absurd hl.symm (Nat.succ_ne_zero _)
 | cons a t=>exact zU4 (C:=fun t=>C (a :: t)) (h a) t (Nat.succ.inj hl)
namespace My
open PySem PySem.Spec PyProof.Rows L2
variable {P:Program} {w:World} {K:ky} {mg:Str→Option Value} {base:Heap}
theorem fsM {N P:List Str} {sc:Scope} (a:autoParam (sc.kind=.function) aR._auto_1) (b:autoParam (sc.isCoroutine=false) aR._auto_1) (c:autoParam (sc.isGenerator=false) aR._auto_1) (d:N.Nodup:=by trivial) (e:autoParam (N.take P.length=P) aR._auto_1)
  (f:∀x∈P,sc.names.lookup x=some .local∨sc.names.lookup x=some .cell:=by trivial) (g:∀y∈sc.names,y.2≠.free:=by trivial):zf N P sc:=⟨a,b,c,d,e,f,g⟩
theorem je {X:Cx} {o e:Expr} {es:List Expr} {to:TE} {t:TA} {apos cpos:Pos} (ho:PE X o to) (ha:PA X (e :: es) t) (hbase:autoParam (attributeBase o "append" X.env (eval o X.env)=eval o X.env) aR._auto_1)
  (hfew:autoParam (((backTo cpos (starEach (e :: es) X.env)).all (fun x=> !x.1)&&(backToKw cpos (keywordEach [] X.env)).all (fun x=>x.1.isSome)&&decide ((e :: es).length+([]:List Keyword).length+(if ([]:List Keyword).isEmpty then 0 else 1) < 30))=true) aR._auto_1)
  (hline:autoParam ((apos.endLine == cpos.line)=true) aR._auto_1) (hs:autoParam (starEach (e :: es) X.env=(false,eval e X.env) :: starEach es X.env) aR._auto_1) (hplain:autoParam ((backTo cpos (starEach es X.env)).any (·.1)=false) aR._auto_1):PE X (.Call (.Attribute o "append" apos) (e :: es) [] cpos) (tBM X.K "list" z0o to t):=z0r PySem.F.plainAttrs_list PySem.F.slot_list_append PySem.F.type_list_append Z3 ho ha hbase hfew hline hs hplain
theorem jq {X:Cx} {o:Expr} {to:TE} {apos cpos:Pos} (ho:PE X o to) (hbase:autoParam (attributeBase o "pop" X.env (eval o X.env)=eval o X.env) aR._auto_1) (hline:autoParam ((apos.endLine == cpos.line)=true) aR._auto_1):PE X (.Call (.Attribute o "pop" apos) [] [] cpos) (tBM0 X.K "list" rPop to):=z13 PySem.F.plainAttrs_list PySem.F.slot_list_pop PySem.F.type_list_pop z8d ho hbase hline
noncomputable def top (i:Nat):Stmt:=PySem.Challenge.pw_codemill_k56_whole_swapped_tells.main.body.getD i (.Pass ⟨0,0,0,0⟩)
def FN (P:Program) (w:World) (K:ky) (mg:Str→Option Value) (base:Heap) (k:Nat) (name:Str) (ps:List Str) (sp:Sp):Prop:=
 ∃f fd,mg name=some (.ref f)∧PySem.W.keepIn K (.ref f)=true∧jE K fd ps []∧FnOk P w K mg base CX0 k f fd ps sp
def zk (K:ky) (mg:Str→Option Value) (name:Str) (st:Stmt):Prop:=∃f fd,Fun K name name st f fd∧mg name=some (.ref f)
section
theorem FN.mono {j k:Nat} {name:Str} {ps:List Str} {sp:Sp} (F:FN P w K mg base j name ps sp) (h:j≤k):FN P w K mg base k name ps sp:=by
 obtain ⟨f,fd,a,b,c,d⟩:=F
 exact ⟨f,fd,a,b,c,d.mono h⟩
theorem FN.imp {k:Nat} {name:Str} {ps:List Str} {sp sp':Sp} (F:FN P w K mg base k name ps sp) (h:∀vs H Q E,sp' vs H Q E→sp vs H Q E):FN P w K mg base k name ps sp':=by
 obtain ⟨f,fd,a,b,c,d⟩:=F
 exact ⟨f,fd,a,b,c,d.imp h⟩
theorem FN.of {name:Str} {st:Stmt} {N ps:List Str} {sp:Sp} {k:Nat} (D:zk K mg name st) (S:zf N ps (zb st))
  (hb:∀(kV doc pm:Value) (an:Option Addr) (cdv ct:Value) (us:List Value),us.length=ps.length→bindArgs (PySem.W.fnOf name name (qd st) (zH st) (zb st) .none kV doc pm an cdv ct) ⟨us,[]⟩=pure (ps.zip us))
  (len:∀vs H Q E,sp vs H Q E→vs.length=ps.length)
  (hbody:∀(f:Addr) (cdv:Value) (A:Around) (outer:List Env) (s:Shared) (H:Hp) (vs:List V) (Q:VK) (E:XK),Room k (A.deeper (envOfC name (zb st) s.heap.objs.size f cdv))→sp vs H Q E→
   ∃t,PSs (cxOf CX0 P w K mg base N name (zb st) f cdv A outer s H E).nox (zH st) t∧t { nx:=fun _ H'=>Q .non H',rt:=Q } (jk N vs) H):FN P w K mg base (k+1) name ps sp:=by
 obtain ⟨f,fd,F,m⟩:=D
 exact ⟨f,fd,m,F.kp,F.binds hb,F.ok S len (hbody f)⟩
theorem FN.o {name:Str} {st:Stmt} {N ps:List Str} {sp:Sp} {k:Nat} (D:zk K mg name st) (S:zf N ps (zb st))
  (hbody:∀(f:Addr) (cdv:Value) (A:Around) (outer:List Env) (s:Shared) (H:Hp) (vs:List V) (Q:VK) (E:XK),Room k (A.deeper (envOfC name (zb st) s.heap.objs.size f cdv))→sp vs H Q E→
   ∃t,PSs (cxOf CX0 P w K mg base N name (zb st) f cdv A outer s H E).nox (zH st) t∧t { nx:=fun _ H'=>Q .non H',rt:=Q } (jk N vs) H)
  (hb:∀(kV doc pm:Value) (an:Option Addr) (cdv ct:Value) (us:List Value),us.length=ps.length→bindArgs (PySem.W.fnOf name name (qd st) (zH st) (zb st) .none kV doc pm an cdv ct) ⟨us,[]⟩=pure (ps.zip us):=by (first | exact fun _ _ _ _ _ _=>zU1 fun _=>rfl | exact fun _ _ _ _ _ _=>zU2 fun _ _=>rfl | exact fun _ _ _ _ _ _=>zU3 fun _ _ _=>rfl | exact fun _ _ _ _ _ _=>zU4 fun _ _ _ _=>rfl | exact fun _ _ _ _ _ _=>zU5 fun _ _ _ _ _=>rfl))
  (len:∀vs H Q E,sp vs H Q E→vs.length=ps.length:=by (intro vs H Q E h;repeat (first | (obtain ⟨e,_⟩:=h;subst e;rfl) | (obtain ⟨_,h⟩:=h)))):FN P w K mg base (k+1) name ps sp:=FN.of D S hb len hbody
end
section
variable {X:Cx} {k:Nat} {name:Str} {ps:List Str} {sp:Sp} {p pos:Pos} {e:Expr} {es:List Expr} {t:TA}
theorem zm (F:FN X.prog X.w X.K X.mg X.base k name ps sp) (hr:Room k X.A) (hg:Gl X name) (ha:PA X (e :: es) t) (hdb:autoParam ((name == ("__debug__":Str))=false) aR._auto_2)
  (he:autoParam (starEach (e :: es) X.env=(false,eval e X.env) :: starEach es X.env) aR._auto_1) (hpl:autoParam ((backTo pos (starEach es X.env)).any (·.1)=false) aR._auto_1):
  PE X (.Call (.Name name p) (e :: es) [] pos) (z6i sp [] E0 t):=by
 obtain ⟨f,fd,a,b,c,d⟩:=F
 exact z32 d hr hg a b c .nil z1A ha hdb he hpl
end
inductive Scal:V→Prop where
 | non:Scal .non
 | bl (b:Bool):Scal (.bl b)
 | int (i:Int):Scal (.int i)
 | str (s:Str) (h:s.length≤sizeLine):Scal (.str s)
noncomputable def ZJ:V→Bool
 | .int _=>true
 | _=>false
noncomputable def isB:V→Bool
 | .bl _=>true
 | _=>false
noncomputable def isS:V→Bool
 | .str _=>true
 | _=>false
noncomputable def zZ (x:V) (lo hi:Int):Bool:=match x with
 | .int i=>decide (lo≤i)&&decide (i≤hi)
 | _=>false
noncomputable def jy (x:V) (most:Int):Bool:=match x with
 | .str s=>decide ((1:Int)≤(s.length:Int))&&decide ((s.length:Int)≤most)&&Txt.isascii s&&Txt.isalpha s
 | _=>false
noncomputable def low:V→Bool
 | .str s=>Txt.islower s
 | _=>false
noncomputable def JC (x:V):Bool:=jy x 4&&low x
noncomputable def Qz (x:V):Bool:=jy x 8
noncomputable def z4E (x:V):Bool:=zZ x 0 99
noncomputable def QC (x:V) (most:Int):Bool:=decide (x=.non)||isB x||zZ x (-most) most||Qz x
noncomputable def jm (x:V):Bool:=QC x 1000000000
noncomputable def Je (x:V):Bool:=zZ x 1 9
noncomputable def ZL (x:V):Bool:=zZ x 2 9
noncomputable def z3b (x:V):Bool:=decide (x=.non)
noncomputable def Zn:List (Str × Str):=[("push","value"),("load","name"),("quick","name"),("store","name"),("clear","name"),("copy","copied"),("swap","swapped"),("jump","mark"),("iftrue","mark"),("iffalse","mark"),("ortrue","mark"),("orfalse","mark"),("try","mark"),("label","mark"),("add","none"),("sub","none"),("mul","none"),("div","none"),("rest","none"),("less","none"),("same","none"),("neg","none"),("not","none"),("drop","none"),("tell","none"),("return","none"),("raise","none"),("endtry","none")]
noncomputable def zM (op:Str):Option Str:=Zn.lookup op
noncomputable def Zc (sort:Str) (x:V):Bool:=
 if sort="value" then jm x else if sort="name" then JC x else if sort="copied" then Je x else if sort="swapped" then ZL x else if sort="mark" then z4E x else z3b x
noncomputable def j9 (op:Str) (x:V):Bool:=match zM op with
 | some s=>Zc s x
 | none=>false
noncomputable def rowV (op:Str) (arg line:V):Bool:=(zM op).isSome&&j9 op arg&&zZ line 0 9999
structure Glo (mg:Str→Option Value):Prop where
 isinstance:mg "isinstance"=none
 int:mg "int"=none
 bool:mg "bool"=none
 str:mg "str"=none
 tuple:mg "tuple"=none
 list:mg "list"=none
 len:mg "len"=none
 range:mg "range"=none
 enumerate:mg "enumerate"=none
 rows:∃u,mg "MOST_ROWS"=some u∧RelV (.int 150) u
 line:∃u,mg "MOST_LINE"=some u∧RelV (.int 9999) u
 mark:∃u,mg "MOST_MARK"=some u∧RelV (.int 99) u
 pushed:∃u,mg "MOST_PUSHED"=some u∧RelV (.int 1000000000) u
 name:∃u,mg "LONGEST_NAME"=some u∧RelV (.int 4) u
 kind:∃u,mg "LONGEST_KIND"=some u∧RelV (.int 8) u
 all:mg "all"=none
 dict:mg "dict"=none
 max:mg "max"=none
 min:mg "min"=none
 abs:mg "abs"=none
 made:∃u,mg "MOST_MADE"=some u∧RelV (.int 1000000000000000000) u
 names:∃u,mg "MOST_NAMES"=some u∧RelV (.int 8) u
 steps:∃u,mg "MOST_STEPS"=some u∧RelV (.int 100000) u
theorem zE:bootBuiltins "isinstance"=some (.builtin "isinstance"):=by trivial
theorem z5r:bootBuiltins "int"=some (.type "int"):=by trivial
theorem jC:bootBuiltins "bool"=some (.type "bool"):=by trivial
theorem z1m:bootBuiltins "str"=some (.type "str"):=by trivial
theorem z26:bootBuiltins "tuple"=some (.type "tuple"):=by trivial
theorem jg:bootBuiltins "list"=some (.type "list"):=by trivial
theorem zK:bootBuiltins "len"=some (.builtin "len"):=by trivial
theorem z4I {K:ky} {H:Hp} {x:V} (h:Scal x):∃t,TyOf K H x t∧PySem.W.kitOne K t (.type "int")=some (ZJ x||isB x):=by
 cases h with
 | non=>exact ⟨_,.non,rfl⟩
 | bl b=>exact ⟨_,.bl b,rfl⟩
 | int i=>exact ⟨_,.int i,rfl⟩
 | str s _=>exact ⟨_,.str s,rfl⟩
theorem Za {K:ky} {H:Hp} {x:V} (h:Scal x):∃t,TyOf K H x t∧PySem.W.kitOne K t (.type "bool")=some (isB x):=by
 cases h with
 | non=>exact ⟨_,.non,rfl⟩
 | bl b=>exact ⟨_,.bl b,rfl⟩
 | int i=>exact ⟨_,.int i,rfl⟩
 | str s _=>exact ⟨_,.str s,rfl⟩
theorem z1c {K:ky} {H:Hp} {x:V} (h:Scal x):∃t,TyOf K H x t∧PySem.W.kitOne K t (.type "str")=some (isS x):=by
 cases h with
 | non=>exact ⟨_,.non,rfl⟩
 | bl b=>exact ⟨_,.bl b,rfl⟩
 | int i=>exact ⟨_,.int i,rfl⟩
 | str s _=>exact ⟨_,.str s,rfl⟩
theorem z1P {K:ky} {H:Hp} {x:V} (h:Scal x):∃t,TyOf K H x t∧PySem.W.kitOne K t (.type "tuple")=some false:=by
 cases h with
 | non=>exact ⟨_,.non,rfl⟩
 | bl b=>exact ⟨_,.bl b,rfl⟩
 | int i=>exact ⟨_,.int i,rfl⟩
 | str s _=>exact ⟨_,.str s,rfl⟩
section
variable {X:Cx}
theorem Qu (T:String) {x:Str} {pos:Pos} (hg:Gl X x) (hm:X.mg x=none) (hv:bootBuiltins x=some (.type T)) (hn:autoParam (x≠"__name__") aR._auto_2) (hd:autoParam ((x == ("__debug__":Str))=false) aR._auto_2):PE X (.Name x pos) (tC (.ty T)):=z6D hg hm hv rfl hn hd
theorem qC {x:Str} {v:V} {pos:Pos} (hg:Gl X x) (hm:∃u,X.mg x=some u∧RelV v u) (hd:autoParam ((x == ("__debug__":Str))=false) aR._auto_2):PE X (.Name x pos) (tC v):=by
 obtain ⟨u,h1,h2⟩:=hm
 exact zO hg h1 h2 hd
end
section
def sp1 (f:V→Bool):Sp:=fun vs H Q _=>∃x,vs=[x]∧Scal x∧Q (.bl (f x)) H
theorem z92 {f:V→Bool} (vs:List V) (H:Hp) (Q:VK) (E:XK) (h:sp1 f vs H Q E):vs.length=1:=by
 obtain ⟨x,rfl,_⟩:=h
 rfl
theorem sc14:zf ["thing"] ["thing"] (zb (top 14)):=fsM
theorem JT (D:zk K mg "is_number" (top 14)) (G:Glo mg):FN P w K mg base 1 "is_number" ["thing"] (sp1 ZJ):=by
 refine FN.o D sc14 fun f cdv A outer s H vs Q E hr h=>?_
 obtain ⟨x,rfl,hx,q⟩:=h
 refine ⟨_,ze (zi (qN (zq zX rfl G.isinstance zE (z0 (pv 0) (z0 (Qu "int" rfl G.int z5r) z8)))
  (qV (z5R (zq zX rfl G.isinstance zE (z0 (pv 0) (z0 (Qu "bool" rfl G.bool jC) z8))))))),?_⟩
 obtain ⟨t1,ty1,k1⟩:=z4I (K:=K) (H:=H) hx
 obtain ⟨t2,ty2,k2⟩:=Za (K:=K) (H:=H) hx
 refine ⟨_,rfl,_,"int",t1,_,rfl,ty1,k1,_,rfl,?_⟩
 cases hx with
 | non=>exact q
 | bl b=>exact ⟨_,rfl,_,"bool",t2,_,rfl,ty2,k2,_,rfl,q⟩
 | int i=>exact ⟨_,rfl,_,"bool",t2,_,rfl,ty2,k2,_,rfl,q⟩
 | str s _=>exact q
def jl:Sp:=fun vs H Q _=>∃x lo hi,vs=[x,.int lo,.int hi]∧Scal x∧Q (.bl (zZ x lo hi)) H
theorem sc15:zf ["thing","low","high"] ["thing","low","high"] (zb (top 15)):=fsM
theorem z3F (D:zk K mg "is_number_within" (top 15)) (G:Glo mg) (F1:FN P w K mg base 1 "is_number" ["thing"] (sp1 ZJ)):FN P w K mg base 2 "is_number_within" ["thing","low","high"] jl:=by
 refine FN.o D sc15 fun f cdv A outer s H vs Q E hr h=>?_
 obtain ⟨x,lo,hi,rfl,hx,q⟩:=h
 refine ⟨_,ze (zi (qN (zm F1 hr rfl (z0 (pv 0) z8)) (qV (J1 z0s z0s (pv 1) (pv 0) (pv 2))))),?_⟩
 refine ⟨_,rfl,x,rfl,hx,_,rfl,?_⟩
 cases hx with
 | non=>exact q
 | bl b=>exact q
 | str s _=>exact q
 | int i=>
  refine ⟨_,rfl,_,rfl,_,_,rfl,rfl,_,rfl,?_⟩
  have q':Q (.bl (decide (lo≤i)&&decide (i≤hi))) H:=q
  refine ite2 (fun c=>?_) (fun c=>?_)
  ·rw [c,Bool.true_and] at q'
   exact ⟨_,rfl,_,_,rfl,rfl,q'⟩
  ·rw [Bool.eq_false_iff.mpr c,Bool.false_and] at q'
   exact q'
def ZX:Sp:=fun vs H Q _=>∃x most,vs=[x,.int most]∧Scal x∧Q (.bl (jy x most)) H
theorem sc16:zf ["thing","most"] ["thing","most"] (zb (top 16)):=fsM
theorem z1W (D:zk K mg "is_letters" (top 16)) (G:Glo mg):FN P w K mg base 1 "is_letters" ["thing","most"] ZX:=by
 refine FN.o D sc16 fun f cdv A outer s H vs Q E hr h=>?_
 obtain ⟨x,most,rfl,hx,q⟩:=h
 refine ⟨_,ze (zi (qN (zq zX rfl G.isinstance zE (z0 (pv 0) (z0 (Qu "str" rfl G.str z1m) z8)))
  (qN (J1 z0s z0s zh (zq z01 rfl G.len zK (z0 (pv 0) z8)) (pv 1))
  (qN (z13 F.plainAttrs_str F.slot_str_isascii F.type_str_isascii z1D (pv 0))
  (qV (z13 F.plainAttrs_str F.slot_str_isalpha F.type_str_isalpha z1E (pv 0))))))),?_⟩
 obtain ⟨t1,ty1,k1⟩:=z1c (K:=K) (H:=H) hx
 refine ⟨_,rfl,_,"str",t1,_,rfl,ty1,k1,_,rfl,?_⟩
 cases hx with
 | non=>exact q
 | bl b=>exact q
 | int i=>exact q
 | str z hz=>
  have q':Q (.bl (decide ((1:Int)≤(z.length:Int))&&decide ((z.length:Int)≤most)&&Txt.isascii z&&Txt.isalpha z)) H:=q
  refine ⟨_,rfl,z,rfl,hz,_,_,rfl,rfl,_,rfl,?_⟩
  refine ite2 (fun c=>?_) (fun c=>?_)
  ·rw [c,Bool.true_and] at q'
   refine ⟨_,rfl,_,_,rfl,rfl,_,rfl,?_⟩
   refine ite2 (fun c=>?_) (fun c=>?_)
   ·rw [c,Bool.true_and] at q'
    refine ⟨_,rfl,rfl,z,rfl,rfl,_,rfl,?_⟩
    refine ite2 (fun c=>?_) (fun c=>?_)
    ·rw [c,Bool.true_and] at q'
     exact ⟨_,rfl,rfl,z,rfl,rfl,q'⟩
    ·rw [Bool.eq_false_iff.mpr c,Bool.false_and] at q'
     exact q'
   ·rw [Bool.eq_false_iff.mpr c,Bool.false_and,Bool.false_and] at q'
    exact q'
  ·rw [Bool.eq_false_iff.mpr c,Bool.false_and,Bool.false_and,Bool.false_and] at q'
   exact ⟨_,rfl,q'⟩
theorem sc17:zf ["thing"] ["thing"] (zb (top 17)):=fsM
theorem z78 (D:zk K mg "is_name" (top 17)) (G:Glo mg) (F1:FN P w K mg base 1 "is_letters" ["thing","most"] ZX):FN P w K mg base 2 "is_name" ["thing"] (sp1 JC):=by
 refine FN.o D sc17 fun f cdv A outer s H vs Q E hr h=>?_
 obtain ⟨x,rfl,hx,q⟩:=h
 refine ⟨_,ze (zi (qN (zm F1 hr rfl (z0 (pv 0) (z0 (qC rfl G.name) z8)))
  (qV (z13 F.plainAttrs_str F.slot_str_islower F.type_str_islower z1C (pv 0))))),?_⟩
 refine ⟨_,rfl,x,4,rfl,hx,_,rfl,?_⟩
 have q':Q (.bl (jy x 4&&low x)) H:=q
 refine ite2 (fun c=>?_) (fun c=>?_)
 ·rw [c,Bool.true_and] at q'
  cases hx with
  | non=>cases c
  | bl b=>cases c
  | int i=>cases c
  | str z hz=>exact ⟨_,rfl,rfl,z,rfl,rfl,q'⟩
 ·rw [Bool.eq_false_iff.mpr c,Bool.false_and] at q'
  exact q'
theorem sc18:zf ["thing"] ["thing"] (zb (top 18)):=fsM
theorem z7c (D:zk K mg "is_kind" (top 18)) (G:Glo mg) (F1:FN P w K mg base 1 "is_letters" ["thing","most"] ZX):FN P w K mg base 2 "is_kind" ["thing"] (sp1 Qz):=by
 refine FN.o D sc18 fun f cdv A outer s H vs Q E hr h=>?_
 obtain ⟨x,rfl,hx,q⟩:=h
 refine ⟨_,ze (zi (zm F1 hr rfl (z0 (pv 0) (z0 (qC rfl G.kind) z8)))),?_⟩
 exact ⟨_,rfl,x,8,rfl,hx,q⟩
theorem sc19:zf ["thing"] ["thing"] (zb (top 19)):=fsM
theorem z79 (D:zk K mg "is_mark" (top 19)) (G:Glo mg) (F1:FN P w K mg base 2 "is_number_within" ["thing","low","high"] jl):FN P w K mg base 3 "is_mark" ["thing"] (sp1 z4E):=by
 refine FN.o D sc19 fun f cdv A outer s H vs Q E hr h=>?_
 obtain ⟨x,rfl,hx,q⟩:=h
 refine ⟨_,ze (zi (zm F1 hr rfl (z0 (pv 0) (z0 zh (z0 (qC rfl G.mark) z8))))),?_⟩
 exact ⟨_,rfl,x,0,99,rfl,hx,q⟩
def z0f:Sp:=fun vs H Q _=>∃x most,vs=[x,.int most]∧Scal x∧Q (.bl (QC x most)) H
theorem sc20:zf ["thing","most"] ["thing","most"] (zb (top 20)):=fsM
theorem z4S (D:zk K mg "is_value_within" (top 20)) (G:Glo mg) (F1:FN P w K mg base 2 "is_number_within" ["thing","low","high"] jl) (F2:FN P w K mg base 2 "is_kind" ["thing"] (sp1 Qz)):FN P w K mg base 3 "is_value_within" ["thing","most"] z0f:=by
 refine FN.o D sc20 fun f cdv A outer s H vs Q E hr h=>?_
 obtain ⟨x,most,rfl,hx,q⟩:=h
 refine ⟨_,z7 (zQ (PW.pt (Qt (zl Q7 (pv 0) zR (zo _)) (jY (qy (zq zX rfl G.isinstance zE (z0 (pv 0) (z0 (Qu "bool" rfl G.bool jC) z8))))))) (ze (zi Qv)) zt)
  (ze (zi (z83 (zm F1 hr rfl (z0 (pv 0) (z0 (Zp jb (pv 1)) (z0 (pv 1) z8)))) (qV (zm F2 hr rfl (z0 (pv 0) z8)))))),?_⟩
 refine ⟨_,rfl,rfl,_,rfl,?_⟩
 have q':Q (.bl (decide (x=.non)||isB x||zZ x (-most) most||Qz x)) H:=q
 refine ite2 (fun c=>?_) (fun c=>?_)
 ·rw [c,Bool.true_or,Bool.true_or,Bool.true_or] at q'
  exact iteT q'
 ·rw [Bool.eq_false_iff.mpr c,Bool.false_or] at q'
  obtain ⟨t2,ty2,k2⟩:=Za (K:=K) (H:=H) hx
  refine ⟨_,rfl,_,"bool",t2,_,rfl,ty2,k2,_,rfl,?_⟩
  refine ite2 (fun c=>?_) (fun c=>?_)
  ·rw [c,Bool.true_or,Bool.true_or] at q'
   exact q'
  ·rw [Bool.eq_false_iff.mpr c,Bool.false_or] at q'
   refine ⟨_,rfl,_,rfl,most,rfl,_,rfl,x,-most,most,rfl,hx,_,rfl,?_⟩
   refine ite2 (fun c=>?_) (fun c=>?_)
   ·rw [c,Bool.true_or] at q'
    exact q'
   ·rw [Bool.eq_false_iff.mpr c,Bool.false_or] at q'
    exact ⟨_,rfl,x,rfl,hx,q'⟩
theorem sc21:zf ["thing"] ["thing"] (zb (top 21)):=fsM
theorem z3J (D:zk K mg "is_pushed" (top 21)) (G:Glo mg) (F1:FN P w K mg base 3 "is_value_within" ["thing","most"] z0f):FN P w K mg base 4 "is_pushed" ["thing"] (sp1 jm):=by
 refine FN.o D sc21 fun f cdv A outer s H vs Q E hr h=>?_
 obtain ⟨x,rfl,hx,q⟩:=h
 refine ⟨_,ze (zi (zm F1 hr rfl (z0 (pv 0) (z0 (qC rfl G.pushed) z8)))),?_⟩
 exact ⟨_,rfl,x,1000000000,rfl,hx,q⟩
theorem sc22:zf ["thing"] ["thing"] (zb (top 22)):=fsM
theorem z3L (D:zk K mg "is_copied" (top 22)) (F1:FN P w K mg base 2 "is_number_within" ["thing","low","high"] jl):FN P w K mg base 3 "is_copied" ["thing"] (sp1 Je):=by
 refine FN.o D sc22 fun f cdv A outer s H vs Q E hr h=>?_
 obtain ⟨x,rfl,hx,q⟩:=h
 refine ⟨_,ze (zi (zm F1 hr rfl (z0 (pv 0) (z0 zh (z0 zh z8))))),?_⟩
 exact ⟨_,rfl,x,1,9,rfl,hx,q⟩
theorem sc23:zf ["thing"] ["thing"] (zb (top 23)):=fsM
theorem z1V (D:zk K mg "is_swapped_with" (top 23)) (F1:FN P w K mg base 2 "is_number_within" ["thing","low","high"] jl):FN P w K mg base 3 "is_swapped_with" ["thing"] (sp1 ZL):=by
 refine FN.o D sc23 fun f cdv A outer s H vs Q E hr h=>?_
 obtain ⟨x,rfl,hx,q⟩:=h
 refine ⟨_,ze (zi (zm F1 hr rfl (z0 (pv 0) (z0 zh (z0 zh z8))))),?_⟩
 exact ⟨_,rfl,x,2,9,rfl,hx,q⟩
theorem sc24:zf ["thing"] ["thing"] (zb (top 24)):=fsM
theorem z76 (D:zk K mg "is_none" (top 24)):FN P w K mg base 1 "is_none" ["thing"] (sp1 z3b):=by
 refine FN.o D sc24 fun f cdv A outer s H vs Q E hr h=>?_
 obtain ⟨x,rfl,hx,q⟩:=h
 refine ⟨_,ze (zi (qg Q7 (pv 0) zR (zo _))),?_⟩
 exact ⟨_,rfl,rfl,q⟩
theorem Zr {α β:Type} (f:α→β) (x:Str):∀l:List (Str × α),(l.map fun p=>(p.1,f p.2)).lookup x=(l.lookup x).map f
 | []=>rfl
 | (k,v) :: r=>by
  rw [kS,List.lookup_cons,List.lookup_cons]
  cases x == k with
  | true=>rfl
  | false=>exact Zr f x r
noncomputable def z2x:List (Str × V):=Zn.map fun p=>(p.1,V.str p.2)
theorem ZY (x:Str):z2x.lookup x=(zM x).map V.str:=Zr _ _ _
structure Tabs (w:World) (K:ky) (mg:Str→Option Value):Prop where
 sorts:∃d,mg "ARG_SORTS"=some (.ref d)∧KTab w.params K d z2x
 tests:∃d f1 f2 f3 f4 f5 f6,mg "ARG_TESTS"=some (.ref d)∧KTab w.params K d [("value",.ref f1),("name",.ref f2),("copied",.ref f3),("swapped",.ref f4),("mark",.ref f5),("none",.ref f6)]∧
  mg "is_pushed"=some (.ref f1)∧mg "is_name"=some (.ref f2)∧mg "is_copied"=some (.ref f3)∧mg "is_swapped_with"=some (.ref f4)∧mg "is_mark"=some (.ref f5)∧mg "is_none"=some (.ref f6)
noncomputable def isOp:V→Bool
 | .str s=>(zM s).isSome
 | _=>false
theorem sc26:zf ["thing"] ["thing"] (zb (top 26)):=fsM
theorem z9E (D:zk K mg "is_op" (top 26)) (G:Glo mg) (T:Tabs w K mg):FN P w K mg base 1 "is_op" ["thing"] (sp1 isOp):=by
 refine FN.o D sc26 fun f cdv A outer s H vs Q E hr h=>?_
 obtain ⟨x,rfl,hx,q⟩:=h
 obtain ⟨d,md,td⟩:=T.sorts
 refine ⟨_,ze (zi (qN (zq zX rfl G.isinstance zE (z0 (pv 0) (z0 (Qu "str" rfl G.str z1m) z8))) (qV (z5S (z85 td rfl md (pv 0)))))),?_⟩
 obtain ⟨t1,ty1,k1⟩:=z1c (K:=K) (H:=H) hx
 refine ⟨_,rfl,_,"str",t1,_,rfl,ty1,k1,_,rfl,?_⟩
 cases hx with
 | non=>exact q
 | bl b=>exact q
 | int i=>exact q
 | str z hz=>
  refine ⟨_,rfl,z,rfl,?_⟩
  have q':Q (.bl (zM z).isSome) H:=q
  rw [ZY,Option.isSome_map]
  exact q'
def z2l:Sp:=fun vs H Q _=>∃op s,vs=[.str op]∧zM op=some s∧Q (.str s) H
theorem sc27:zf ["op"] ["op"] (zb (top 27)):=fsM
theorem z6Z (D:zk K mg "arg_sort" (top 27)) (T:Tabs w K mg):FN P w K mg base 1 "arg_sort" ["op"] z2l:=by
 refine FN.o D sc27 fun f cdv A outer s H vs Q E hr h=>?_
 obtain ⟨op,so,rfl,hs,q⟩:=h
 obtain ⟨d,md,td⟩:=T.sorts
 refine ⟨_,ze (zi (QZ td rfl md (pv 0) (fun _ _=>rfl))),?_⟩
 exact ⟨_,rfl,op,.str so,rfl,by rw [ZY,hs];rfl,q⟩
def z5H:Sp:=fun vs H Q _=>∃op s x,vs=[.str op,x]∧zM op=some s∧Scal x∧Q (.bl (Zc s x)) H
theorem sc28:zf ["op","arg","fits"] ["op","arg"] (zb (top 28)):=fsM
theorem z6s {op s:Str} (h:zM op=some s):s="value"∨s="name"∨s="copied"∨s="swapped"∨s="mark"∨s="none":=by
 have hm:(op,s)∈Zn:=PySem.mem_of_lookup h
 have all:∀p∈Zn,p.2="value"∨p.2="name"∨p.2="copied"∨p.2="swapped"∨p.2="mark"∨p.2="none":=by trivial
 exact all _ hm
theorem z7e (D:zk K mg "arg_fits" (top 28)) (T:Tabs w K mg) (F1:FN P w K mg base 1 "arg_sort" ["op"] z2l) (A1:FN P w K mg base 4 "is_pushed" ["thing"] (sp1 jm)) (A2:FN P w K mg base 2 "is_name" ["thing"] (sp1 JC))
  (A3:FN P w K mg base 3 "is_copied" ["thing"] (sp1 Je)) (A4:FN P w K mg base 3 "is_swapped_with" ["thing"] (sp1 ZL)) (A5:FN P w K mg base 3 "is_mark" ["thing"] (sp1 z4E)) (A6:FN P w K mg base 1 "is_none" ["thing"] (sp1 z3b)):
  FN P w K mg base 5 "arg_fits" ["op","arg"] z5H:=by
 refine FN.o D sc28 fun f cdv A outer s H vs Q E hr h=>?_
 obtain ⟨op,so,x,rfl,hs,hx,q⟩:=h
 obtain ⟨d,f1,f2,f3,f4,f5,f6,md,td,m1,m2,m3,m4,m5,m6⟩:=T.tests
 have hr1:=hr.mono (show 1≤4 by decide)
 refine ⟨_,z7 (zw (i:=2) sc28.nd rfl (Or.inl rfl) (QZ td rfl md (zm F1 hr1 rfl (z0 (pv 0) z8)) (fun _ _=>rfl))) (ze (zi (J2 (pv 2) (z0 (pv 1) z8)))),?_⟩
 refine ⟨_,rfl,op,so,rfl,hs,so,?_⟩
 rcases z6s hs with e | e | e | e | e | e
 ·subst e
  obtain ⟨g,gd,mg1,kp,bd,ok⟩:=A1
  cases (kB (m1.symm.trans mg1))
  exact ⟨.ref f1,rfl,by rfl,f1,gd,_,_,4,rfl,kp,ok,hr,bd,_,rfl,x,rfl,hx,q⟩
 ·subst e
  obtain ⟨g,gd,mg1,kp,bd,ok⟩:=A2
  cases (kB (m2.symm.trans mg1))
  exact ⟨.ref f2,rfl,by rfl,f2,gd,_,_,2,rfl,kp,ok,hr.mono (by decide),bd,_,rfl,x,rfl,hx,q⟩
 ·subst e
  obtain ⟨g,gd,mg1,kp,bd,ok⟩:=A3
  cases (kB (m3.symm.trans mg1))
  exact ⟨.ref f3,rfl,by rfl,f3,gd,_,_,3,rfl,kp,ok,hr.mono (by decide),bd,_,rfl,x,rfl,hx,q⟩
 ·subst e
  obtain ⟨g,gd,mg1,kp,bd,ok⟩:=A4
  cases (kB (m4.symm.trans mg1))
  exact ⟨.ref f4,rfl,by rfl,f4,gd,_,_,3,rfl,kp,ok,hr.mono (by decide),bd,_,rfl,x,rfl,hx,q⟩
 ·subst e
  obtain ⟨g,gd,mg1,kp,bd,ok⟩:=A5
  cases (kB (m5.symm.trans mg1))
  exact ⟨.ref f5,rfl,by rfl,f5,gd,_,_,3,rfl,kp,ok,hr.mono (by decide),bd,_,rfl,x,rfl,hx,q⟩
 ·subst e
  obtain ⟨g,gd,mg1,kp,bd,ok⟩:=A6
  cases (kB (m6.symm.trans mg1))
  exact ⟨.ref f6,rfl,by rfl,f6,gd,_,_,1,rfl,kp,ok,hr.mono (by decide),bd,_,rfl,x,rfl,hx,q⟩
def z6l:Sp:=fun vs H Q _=>(vs=[.non]∧Q (.bl false) H)∨∃a op arg line,vs=[.ref a]∧H a=some (.tup [.str op,arg,line])∧op.length≤sizeLine∧Scal arg∧Scal line∧Q (.bl (rowV op arg line)) H
theorem sc29:zf ["thing","op","arg","line"] ["thing"] (zb (top 29)):=fsM
theorem z8z (D:zk K mg "is_row" (top 29)) (G:Glo mg) (F1:FN P w K mg base 1 "is_op" ["thing"] (sp1 isOp)) (F2:FN P w K mg base 5 "arg_fits" ["op","arg"] z5H) (F3:FN P w K mg base 2 "is_number_within" ["thing","low","high"] jl):
  FN P w K mg base 6 "is_row" ["thing"] z6l:=by
 refine FN.of D sc29 (fun _ _ _ _ _ _=>zU1 fun _=>rfl) (fun vs H Q E h=>by rcases h with ⟨rfl,_⟩ | ⟨a,op,arg,line,rfl,_⟩ <;> rfl) (fun f cdv A outer s H vs Q E hr h=>?_)
 refine ⟨_,z7 (zQ (PW.pt (Qt (jc (qy (zq zX rfl G.isinstance zE (z0 (pv 0) (z0 (Qu "tuple" rfl G.tuple z26) z8)))))
   (jY (zl z1B (zq zu rfl G.len zK (z0 (pv 0) z8)) zh (zo _))))) (ze (zi Qv)) zt)
  (z7 (j6 (pv 0) (j7 rfl (zn (zp (i:=1) sc29.nd rfl (Or.inl rfl)) (zn (zp (i:=2) sc29.nd rfl (Or.inl rfl)) (zn (zp (i:=3) sc29.nd rfl (Or.inl rfl)) qf)))))
  (ze (zi (qN (zm F1 (hr.mono (by decide)) rfl (z0 (pv 1) z8)) (qN (zm F2 hr rfl (z0 (pv 1) (z0 (pv 2) z8))) (qV (zm F3 (hr.mono (by decide)) rfl (z0 (pv 3) (z0 zh (z0 (qC rfl G.line) z8)))))))))),?_⟩
 rcases h with ⟨rfl,q⟩ | ⟨a,op,arg,line,rfl,ha,hop,harg,hline,q⟩
 ·obtain ⟨t1,ty1,k1⟩:=z1P (K:=K) (H:=H) .non
  exact ⟨_,rfl,_,"tuple",t1,_,rfl,ty1,k1,_,rfl,iteT (iteT q)⟩
 ·refine ⟨_,rfl,_,"tuple",_,true,rfl,.tup ha,rfl,_,rfl,iteF ?_⟩
  refine ⟨_,rfl,a,_,rfl,.inr (SqT.of ha),rfl,_,rfl,iteF ?_⟩
  refine ⟨_,rfl,a,_,rfl,SqT.of ha,rfl,_,_,rfl,_,_,rfl,_,_,rfl,rfl,?_⟩
  refine ⟨_,rfl,_,rfl,.str op hop,_,rfl,?_⟩
  have q':Q (.bl ((zM op).isSome&&j9 op arg&&zZ line 0 9999)) H:=q
  cases hs:zM op with
  | none=>
   have e:isOp (.str op)=false:=by show (zM op).isSome=false;rw [hs];rfl
   rw [e]
   rw [hs] at q'
   exact iteF q'
  | some so=>
   have e:isOp (.str op)=true:=by show (zM op).isSome=true;rw [hs];rfl
   have ea:j9 op arg=Zc so arg:=by unfold j9;rw [hs]
   rw [e]
   rw [hs,ea] at q'
   refine iteT ⟨_,rfl,_,rfl,op,so,arg,rfl,hs,harg,_,rfl,?_⟩
   refine ite2 (fun c=>?_) (fun c=>?_)
   ·rw [c] at q'
    exact ⟨_,rfl,line,0,9999,rfl,hline,q'⟩
   ·rw [Bool.eq_false_iff.mpr c] at q'
    exact q'
end
structure Row where
 op:Str
 arg:V
 line:Int
noncomputable def tupV (r:Row):List V:=[.str r.op,r.arg,.int r.line]
abbrev zr (H:Hp):List Addr→List Row→Prop:=Paired fun a r=>H a=some (.tup (tupV r))
def Zi (r:Row):Prop:=rowV r.op r.arg (.int r.line)=true
theorem z0Y {α β:Type} {F:α→β→Prop} {xs ys:List α} {us vs:List β} (h:Paired F xs us) (k:Paired F ys vs):Paired F (xs++ys) (us++vs):=by
 induction h with
 | nil=>exact k
 | cons r _ ih=>exact .cons r ih
theorem z2S {β:Type} {F:Addr→β→Prop} {as:List Addr} {rs:List β} (h:Paired F as rs):∀{i:Nat} {x:V},(as.map V.ref)[i]?=some x→∃a r,x=.ref a∧rs[i]?=some r∧F a r:=by
 induction h with
 | nil=>intro i x e;simp at e
 | cons r t ih=>
  intro i x e
  cases i with
  | zero=>simp at e;subst e;exact ⟨_,_,rfl,rfl,r⟩
  | succ i=>
   obtain ⟨a,r,h1,h2,h3⟩:=ih (i:=i) (x:=x) (by simpa using e)
   exact ⟨a,r,h1,by simpa using h2,h3⟩
theorem z7Z {α β:Type} {F:α→β→Prop} {as:List α} {rs:List β} (h:Paired F as rs):∀{i:Nat} {r:β},rs[i]?=some r→∃a,as[i]?=some a∧F a r:=by
 induction h with
 | nil=>intro i x e;simp at e
 | cons r t ih=>
  intro i x e
  cases i with
  | zero=>simp at e;subst e;exact ⟨_,rfl,r⟩
  | succ i=>
   obtain ⟨a,h2,h3⟩:=ih (i:=i) (by simpa using e)
   exact ⟨a,by simpa using h2,h3⟩
theorem zr.keep {H H':Hp} {as:List Addr} {rs:List Row} (h:zr H as rs) (k:∀a xs,H a=some (.tup xs)→H' a=some (.tup xs)):zr H' as rs:=Paired.mapP h fun _ _ e=>k _ _ e
theorem zr.same {H H':Hp} {as:List Addr} {rs:List Row} (h:zr H as rs) (s:Same H H'):zr H' as rs:=h.keep fun _ _ e=>s _ _ e
theorem zr.get {H:Hp} {as:List Addr} {rs:List Row} {i:Nat} {x:V} (h:zr H as rs) (e:(as.map V.ref)[i]?=some x):∃a r,x=.ref a∧rs[i]?=some r∧H a=some (.tup (tupV r)):=z2S h e
theorem zr.append {H:Hp} {as bs:List Addr} {rs ts:List Row} (h:zr H as rs) (k:zr H bs ts):zr H (as++bs) (rs++ts):=z0Y h k
theorem zr.len {H:Hp} {as:List Addr} {rs:List Row} (h:zr H as rs):as.length=rs.length:=Paired.length h
theorem zg {H:Hp} {p:Addr} (h:H p=none) (o:HO):Same H (upd H p o):=fun b u q=>by rw [zd (zc q h)];exact q
theorem Same.upd {H H2:Hp} {p:Addr} (s:Same H H2) (h:H p=none) (o:HO):Same H (upd H2 p o):=fun b u q=>by rw [zd (zc q h)];exact s b u q
theorem z4z {op s:Str} (h:zM op=some s):op.length≤7:=by
 have hm:(op,s)∈Zn:=PySem.mem_of_lookup h
 have all:∀p∈Zn,p.1.length≤7:=by trivial
 exact all _ hm
theorem z0V {n:Nat} (h:n≤1000):n≤sizeLine:=Nat.le_of_lt (ql h)
theorem ZC {x:V} {m:Int} (h:jy x m=true) (hm:m≤100):Scal x:=by
 cases x with
 | str s=>
  have h:(decide ((1:Int)≤(s.length:Int))&&decide ((s.length:Int)≤m)&&Txt.isascii s&&Txt.isalpha s)=true:=h
  simp only [yc,yd] at h
  exact .str s (z0V (by lia))
 | _=>cases h
theorem qi {x:V} {lo hi:Int} (h:zZ x lo hi=true):∃i,x=.int i∧lo≤i∧i≤hi:=by
 cases x with
 | int i=>
  have h:(decide (lo≤i)&&decide (i≤hi))=true:=h
  simp only [yc,yd] at h
  exact ⟨i,rfl,h.1,h.2⟩
 | _=>cases h
theorem z3M {s:Str} {x:V} (h:Zc s x=true):Scal x:=by
 unfold Zc at h
 split at h
 ·unfold jm QC at h
  simp only [Bool.or_eq_true,yd] at h
  rcases h with ((h | h) | h) | h
  ·subst h;exact .non
  ·cases x with
   | bl b=>exact .bl b
   | _=>cases h
  ·obtain ⟨i,rfl,_⟩:=qi h;exact .int i
  ·exact ZC h (by decide)
 ·split at h
  ·unfold JC at h
   simp only [yc] at h
   exact ZC h.1 (by decide)
  ·split at h
   ·obtain ⟨i,rfl,_⟩:=qi h;exact .int i
   ·split at h
    ·obtain ⟨i,rfl,_⟩:=qi h;exact .int i
    ·split at h
     ·obtain ⟨i,rfl,_⟩:=qi h;exact .int i
     ·unfold z3b at h
      simp only [yd] at h
      subst h;exact .non
theorem Zi.parts {r:Row} (h:Zi r):∃s,zM r.op=some s∧Zc s r.arg=true∧0≤r.line∧r.line≤9999∧r.op.length≤sizeLine∧Scal r.arg:=by
 unfold Zi rowV at h
 simp only [yc] at h
 obtain ⟨⟨h1,h2⟩,h3⟩:=h
 obtain ⟨s,hs⟩:=Option.isSome_iff_exists.mp h1
 have h2':Zc s r.arg=true:=by unfold j9 at h2;rw [hs] at h2;exact h2
 obtain ⟨i,e,l1,l2⟩:=qi h3
 cases e
 exact ⟨s,hs,h2',l1,l2,z0V (ku (z4z hs) (by decide)),z3M h2'⟩
theorem Z5 {x:V} (h:Zc "mark" x=true):∃m:Int,x=.int m∧0≤m∧m≤99:=by
 have e:Zc "mark" x=z4E x:=by
  unfold Zc
  rw [kz (by trivial),kz (by trivial),kz (by trivial),kz (by trivial),kA rfl]
 rw [e] at h
 exact qi h
noncomputable def labP (m:Int) (r:Row):Bool:=decide (r.op="label")&&decide (r.arg=.int m)
noncomputable def zF (rs:List Row) (m:Int):Option Nat:=rs.findIdx? (labP m)
noncomputable def jr (rs:List Row) (i:Nat) (r:Row):Bool:=
 if r.op="label" then (match r.arg with | .int m=>decide (zF rs m=some i) | _=>false)
 else if zM r.op=some ("mark":Str) then (match r.arg with | .int m=>(zF rs m).isSome | _=>false) else true
def Zz (kvs:List (Key × V)) (rs:List Row):Prop:=∀m:Int,valV kvs (Sum.inl m:Key)=Option.map (fun i:Nat=>V.int (i:Int)) (zF rs m)
section
def z0T (K:ky):Sp:=fun vs H Q _=>∃l as rs,vs=[.ref l]∧SqL K H l (as.map V.ref)∧zr H as rs∧(∀r∈rs,Zi r)∧rs.length≤1000∧
 ∀d kvs H',H d=none→Same H H'→H' d=some (.dK kvs)→Zz kvs rs→Q (.ref d) H'
theorem sc30:zf ["rows","places","place","row"] ["rows"] (zb (top 30)):=fsM
theorem ju {α:Type} {l:List α} {i:Nat} {x:α} (h:l[i]?=some x):l.take (i+1)=l.take i++[x]:=by
 rw [List.take_add_one,h]
 rfl
theorem J6 {rs:List Row} {i:Nat} {r:Row} (h:rs[i]?=some r) (m:Int):zF (rs.take (i+1)) m=(zF (rs.take i) m).or (if labP m r=true then some i else none):=by
 have hl:(rs.take i).length=i:=by
  rw [List.length_take]
  have:=(kf.mp h).1
  lia
 unfold zF
 rw [ju h,List.findIdx?_append,hl]
 congr 1
 rw [List.findIdx?_cons]
 by_cases c:labP m r=true
 ·rw [kA c,kA c];simp
 ·rw [kz c,kz c];simp
theorem z7b (D:zk K mg "label_places" (top 30)) (G:Glo mg) (FR:FN P w K mg base 6 "is_row" ["thing"] z6l):FN P w K mg base 7 "label_places" ["rows"] (z0T K):=by
 refine FN.o D sc30 fun f cdv A outer s H vs Q E hr h=>?_
 obtain ⟨l,as,rs,rfl,hS,hR,hok,hlen,q⟩:=h
 refine ⟨_,z7 (zw (i:=1) sc30.nd rfl (Or.inl rfl) z10)
  (z7 (jw PassesOwn.never rfl (z2Z rfl G.enumerate (z0 (pv 0) z8)) (j7 rfl (zn (zp (i:=2) sc30.nd rfl (Or.inl rfl)) (zn (zp (i:=3) sc30.nd rfl (Or.inl rfl)) qf)))
   (ze (zQ (PW.pt (Jt (qy (zm FR hr rfl (z0 (pv 3) z8))) (Q0 (zl qz (zD zU (pv 3) zh (fun _ _=>rfl)) zx (zo _)))))
    (ze (zy (z30 (pv 1) (zD zU (pv 3) zh (fun _ _=>rfl)) (pv 2) ⟨rfl,rfl,rfl,rfl⟩))) zt)))
  (ze (zi (pv 1)))),?_⟩
 intro d hd
 have hll:as.length=rs.length:=hR.len
 have hml:(as.map V.ref).length=rs.length:=by rw [kj];exact hll
 refine ⟨_,rfl,l,rfl,⟨_,(zg hd _).seq hS⟩,z1g (K:=K) (a:=l) (xs:=as.map V.ref) (fun i σ H2=>∃kvs v2 v3,σ=[some (.ref l),some (.ref d),v2,v3]∧Same H H2∧H2 d=some (.dK kvs)∧kvs.length≤i∧Zz kvs (rs.take i))
  ⟨[],none,none,rfl,zg hd _,z6,ke _,fun m=>by rw [List.take_zero];rfl⟩ (fun i σ H2 _ ⟨_,_,_,_,s2,_⟩=>s2.seq hS) ?_ ?_⟩
 ·rintro i x σ H2 p hi ⟨kvs,v2,v3,rfl,s2,hD,hk,hL⟩ hp
  obtain ⟨a,r,rfl,hr1,ha⟩:=(hR.same s2).get hi
  have hil:i < rs.length:=(kf.mp hr1).1
  have npd:d≠p:=zc hD hp
  have nap:a≠p:=zc ha hp
  have ha':(upd H2 p (.tup [.int i,.ref a])) a=some (.tup (tupV r)):=by rw [zd nap];exact ha
  have s3:Same H (upd H2 p (.tup [.int i,.ref a])):=fun b o e=>by rw [zd (zc (s2 b o e) hp)];exact s2 b o e
  obtain ⟨so,hs,hfit,hl0,hl1,hop,hsc⟩:=(hok r (kG hr1)).parts
  have hrow:rowV r.op r.arg (.int r.line)=true:=hok r (kG hr1)
  refine ⟨p,_,rfl,SqT.of z6,rfl,_,_,rfl,_,_,rfl,rfl,?_⟩
  refine ⟨_,rfl,.inr ⟨a,r.op,r.arg,.int r.line,rfl,ha',hop,hsc,.int _,_,rfl,?_⟩⟩
  rw [hrow]
  refine iteT ⟨_,rfl,a,_,_,_,rfl,rfl,SqT.of ha',zj (j:=0) rfl,rfl,_,rfl,?_⟩
  have hD':(upd H2 p (.tup [.int i,.ref a])) d=some (.dK kvs):=by rw [zd npd];exact hD
  refine ite2 (fun c=>?_) (fun c=>?_)
  ·have eop:r.op="label":=by
    have:=kC c
    injection this
   have esort:so="mark":=by
    rw [eop] at hs
    have:zM "label"=some "mark":=by trivial
    rw [this] at hs
    exact (kB hs).symm
   rw [esort] at hfit
   obtain ⟨m,em,_,_⟩:=Z5 hfit
   refine ⟨_,rfl,d,rfl,.inl ⟨kvs,.inl hD'⟩,_,rfl,a,_,_,_,rfl,rfl,SqT.of ha',zj (j:=1) rfl,_,rfl,kvs,Sum.inl m,hD',em,ql (by lia),?_⟩
   have eP:labP m r=true:=by unfold labP;rw [eop,em];simp
   cases hv:valV kvs (Sum.inl m:Key) with
   | some v=>
    refine ⟨kvs,_,_,rfl,s3,hD',by lia,fun m'=>?_⟩
    rw [J6 hr1 m',hL m']
    by_cases e:m'=m
    ·subst e
     have:=hL m'
     rw [hv] at this
     cases h1:zF (rs.take i) m' with
     | none=>rw [h1] at this;cases this
     | some j=>rfl
    ·have:labP m' r=false:=by
      unfold labP
      rw [em]
      have:¬(V.int m=V.int m'):=fun z=>e (by injection z with z;exact z.symm)
      simp [this]
     rw [this]
     simp
   | none=>
    refine ⟨putK kvs (Sum.inl m) (.int i),_,_,rfl,fun b o e=>?_,z6,?_,fun m'=>?_⟩
    ·rw [zd (zc e hd)]
     exact s3 b o e
    ·have:=qA kvs (Sum.inl m:Key) (V.int i)
     lia
    ·rw [QS,J6 hr1 m']
     by_cases e:m'=m
     ·subst e
      have:=hL m'
      rw [hv] at this
      rw [kA rfl,eP,kA rfl]
      cases h1:zF (rs.take i) m' with
      | none=>rfl
      | some j=>rw [h1] at this;cases this
     ·have:labP m' r=false:=by
       unfold labP
       rw [em]
       have:¬(V.int m=V.int m'):=fun z=>e (by injection z with z;exact z.symm)
       simp [this]
      rw [this,kz (fun z=>e (by injection z)),hL m']
      simp
  ·refine ⟨kvs,_,_,rfl,s3,hD',by lia,fun m'=>?_⟩
   rw [J6 hr1 m',hL m']
   have:labP m' r=false:=by
    unfold labP
    have:¬(r.op="label"):=fun z=>c (by rw [z];rfl)
    simp [this]
   rw [this]
   simp
 ·rintro σ H2 ⟨kvs,v2,v3,rfl,s2,hD,hk,hL⟩
  refine ⟨_,rfl,q d kvs H2 hd s2 hD ?_⟩
  rw [hml,List.take_length] at hL
  exact hL
end
section
def z5E:Sp:=fun vs H Q _=>∃a i d r kvs rs,vs=[.ref a,.int (i:Nat),.ref d]∧H a=some (.tup (tupV r))∧Zi r∧H d=some (.dK kvs)∧Zz kvs rs∧(∀m:Int,r.op="label"→r.arg=.int m→(zF rs m).isSome=true)∧Q (.bl (jr rs i r)) H
theorem sc31:zf ["row","place","labels","op","mark"] ["row","place","labels"] (zb (top 31)):=fsM
theorem z1M:zM "label"=some "mark":=by trivial
theorem JS (D:zk K mg "mark_fits" (top 31)) (FS:FN P w K mg base 1 "arg_sort" ["op"] z2l):FN P w K mg base 2 "mark_fits" ["row","place","labels"] z5E:=by
 refine FN.o D sc31 fun f cdv A outer s H vs Q E hr h=>?_
 obtain ⟨a,i,d,r,kvs,rs,rfl,ha,hok,hd,hL,hlab,q⟩:=h
 have hu:=Qg hr
 obtain ⟨so,hs,hfit,hl0,hl1,hop,hsc⟩:=hok.parts
 refine ⟨_,z7 (Jv (i:=3) (j:=4) rfl sc31.nd rfl rfl (by decide) rfl rfl (z0 (zD zU (pv 0) zh (fun _ _=>rfl)) (z0 (zD zU (pv 0) zh (fun _ _=>rfl)) z8)) rfl)
  (z7 (zQ (zl qz (pv 3) zx (zo _)) (ze (zi (qg qz (Zq hu (pv 2) (pv 4) (fun _ _=>rfl)) (pv 1) (zo _)))) zt)
  (ze (zi (z83 (qg z1B (zm FS hr rfl (z0 (pv 3) z8)) zx (zo _)) (qV (z5S (z86 hu (pv 4) (pv 2)))))))),?_⟩
 refine ⟨_,rfl,a,_,_,_,rfl,rfl,SqT.of ha,zj (j:=0) rfl,_,rfl,a,_,_,_,rfl,rfl,SqT.of ha,zj (j:=1) rfl,_,_,rfl,?_⟩
 refine ⟨_,rfl,rfl,_,rfl,?_⟩
 refine ite2 (fun c=>?_) (fun c=>?_)
 ·have eop:r.op="label":=by
   have:=kC c
   injection this
  have esort:so="mark":=by
   rw [eop,z1M] at hs
   exact (kB hs).symm
  rw [esort] at hfit
  obtain ⟨m,em,_,_⟩:=Z5 hfit
  obtain ⟨j,hj⟩:=Option.isSome_iff_exists.mp (hlab m eop em)
  have hv:valV kvs (Sum.inl m:Key)=some (.int (j:Int)):=by rw [hL m,hj];rfl
  have hg:DGet H d r.arg (some (.int (j:Int))):=by rw [em,←hv];exact DGet.k (k:=Sum.inl m) hd
  refine ⟨_,rfl,_,rfl,d,_,rfl,hg,_,rfl,rfl,?_⟩
  have e:jr rs i r=decide (V.int (j:Int)=V.int (i:Int)):=by
   unfold jr
   rw [kA eop,em]
   show decide (zF rs m=some i)=_
   rw [hj]
   by_cases z:j=i
   ·subst z;simp
   ·rw [kh (fun y=>z (by injection y)),kh (fun y=>z (by injection y with y;lia))]
  rw [e] at q
  exact q
 ·have eop:¬r.op="label":=fun z=>c (by rw [z];rfl)
  refine ⟨_,rfl,r.op,so,rfl,hs,rfl,_,rfl,?_⟩
  unfold jr at q
  rw [kz eop,hs] at q
  by_cases e:so="mark"
  ·subst e
   rw [kA rfl] at q
   obtain ⟨m,em,_,_⟩:=Z5 hfit
   have e1:(!decide (V.str "mark"=V.str "mark"))=false:=by trivial
   rw [e1]
   refine iteF ⟨_,rfl,_,rfl,d,Option.map (fun i:Nat=>V.int (i:Int)) (zF rs m),rfl,?_,?_⟩
   ·have:DGet H d r.arg (Option.map (fun i:Nat=>V.int (i:Int)) (zF rs m)):=by
     rw [em,←hL m]
     exact DGet.k (k:=Sum.inl m) hd
    exact this
   ·rw [em] at q
    rw [Option.isSome_map]
    exact q
  ·rw [kz (fun z=>e (kB z))] at q
   have e1:(!decide (V.str so=V.str "mark"))=true:=by
    rw [kh (fun z=>e (by injection z))]
    rfl
   rw [e1]
   exact iteT q
def z6r (K:ky):Sp:=fun vs H Q _=>∃l as rs,vs=[.ref l]∧SqL K H l (as.map V.ref)∧zr H as rs∧(∀r∈rs,Zi r)∧rs.length≤1000∧
 (∀H',Same H H'→(∀i r,rs[i]?=some r→jr rs i r=true)→Q .non H')∧
 (∀(i:Nat) r H',Same H H'→rs[i]?=some r→jr rs i r=false→(∀j r',j < i→rs[j]?=some r'→jr rs j r'=true)→Q (.int i) H')
theorem sc32:zf ["rows","labels","place","row"] ["rows"] (zb (top 32)):=fsM
theorem z0G {rs:List Row} {i:Nat} {r:Row} {m:Int} (h:rs[i]?=some r) (h1:r.op="label") (h2:r.arg=.int m):(zF rs m).isSome=true:=by
 unfold zF
 rw [List.findIdx?_isSome,List.any_eq_true]
 exact ⟨r,kG h,by unfold labP;rw [h1,h2];simp⟩
theorem z8H (D:zk K mg "first_bad_place" (top 32)) (G:Glo mg) (FR:FN P w K mg base 6 "is_row" ["thing"] z6l) (FL:FN P w K mg base 7 "label_places" ["rows"] (z0T K)) (FM:FN P w K mg base 2 "mark_fits" ["row","place","labels"] z5E):
  FN P w K mg base 8 "first_bad_place" ["rows"] (z6r K):=by
 refine FN.o D sc32 fun f cdv A outer s H vs Q E hr h=>?_
 obtain ⟨l,as,rs,rfl,hS,hR,hok,hlen,q1,q2⟩:=h
 refine ⟨_,z7 (zw (i:=1) sc32.nd rfl (Or.inl rfl) (zm FL hr rfl (z0 (pv 0) z8)))
  (z7 (jw PassesOwn.never rfl (z2Z rfl G.enumerate (z0 (pv 0) z8)) (j7 rfl (zn (zp (i:=2) sc32.nd rfl (Or.inl rfl)) (zn (zp (i:=3) sc32.nd rfl (Or.inl rfl)) qf)))
   (ze (zQ (PW.pt (Qt (jc (qy (zm FR (hr.mono (by decide)) rfl (z0 (pv 3) z8)))) (jY (jc (qy (zm FM (hr.mono (by decide)) rfl (z0 (pv 3) (z0 (pv 2) (z0 (pv 1) z8)))))))))
    (ze (zi (pv 2))) zt)))
  (ze (zi zR))),?_⟩
 refine ⟨_,rfl,l,as,rs,rfl,hS,hR,hok,hlen,fun d kvs H1 hd0 s1 hD hL=>?_⟩
 have hll:as.length=rs.length:=hR.len
 have hml:(as.map V.ref).length=rs.length:=by rw [kj];exact hll
 refine ⟨_,rfl,l,rfl,⟨_,s1.seq hS⟩,z1g (K:=K) (a:=l) (xs:=as.map V.ref) (fun i σ H2=>∃v2 v3,σ=[some (.ref l),some (.ref d),v2,v3]∧Same H1 H2∧∀j r',j < i→rs[j]?=some r'→jr rs j r'=true)
  ⟨none,none,rfl,Same.refl _,fun j _ hj=>absurd hj (Nat.not_lt_zero _)⟩ (fun i σ H2 _ ⟨_,_,_,s2,_⟩=>s2.seq (s1.seq hS)) ?_ ?_⟩
 ·rintro i x σ H2 p hi ⟨v2,v3,rfl,s2,hall⟩ hp
  obtain ⟨a,r,rfl,hr1,ha⟩:=((hR.same s1).same s2).get hi
  have hD2:=s2 _ _ hD
  have npd:d≠p:=zc hD2 hp
  have nap:a≠p:=zc ha hp
  have ha':(upd H2 p (.tup [.int i,.ref a])) a=some (.tup (tupV r)):=by rw [zd nap];exact ha
  have hD':(upd H2 p (.tup [.int i,.ref a])) d=some (.dK kvs):=by rw [zd npd];exact hD2
  have s3:Same H1 (upd H2 p (.tup [.int i,.ref a])):=fun b o e=>by rw [zd (zc (s2 b o e) hp)];exact s2 b o e
  have hro:=hok r (kG hr1)
  obtain ⟨so,hs,hfit,hl0,hl1,hop,hsc⟩:=hro.parts
  refine ⟨p,_,rfl,SqT.of z6,rfl,_,_,rfl,_,_,rfl,rfl,?_⟩
  refine ⟨_,rfl,.inr ⟨a,r.op,r.arg,.int r.line,rfl,ha',hop,hsc,.int _,_,rfl,?_⟩⟩
  have hrow:rowV r.op r.arg (.int r.line)=true:=hro
  rw [hrow]
  refine iteF ⟨_,rfl,_,rfl,_,rfl,a,i,d,r,kvs,rs,rfl,ha',hro,hD',hL,(fun m h1 h2=>z0G hr1 h1 h2),_,rfl,?_⟩
  cases hb:jr rs i r with
  | true=>
   refine iteF ⟨_,_,rfl,s3,fun j r' hj hr'=>?_⟩
   by_cases e:j=i
   ·subst e
    rw [hr1] at hr'
    cases hr'
    exact hb
   ·exact hall j r' (by lia) hr'
  | false=>exact iteT ⟨_,rfl,q2 i r _ (s1.trans s3) hr1 hb hall⟩
 ·rintro σ H2 ⟨v2,v3,rfl,s2,hall⟩
  refine q1 H2 (s1.trans s2) fun i r hir=>hall i r ?_ hir
  rw [hml]
  exact (kf.mp hir).1
def z6o:Sp:=fun vs H Q _=>∃l xs,vs=[.ref l]∧H l=some (.lst xs)∧1≤xs.length∧xs.length≤150∧Q (.bl true) H
theorem sc33:zf ["thing"] ["thing"] (zb (top 33)):=fsM
theorem z8G (D:zk K mg "has_places" (top 33)) (G:Glo mg):FN P w K mg base 1 "has_places" ["thing"] z6o:=by
 refine FN.o D sc33 fun f cdv A outer s H vs Q E hr h=>?_
 obtain ⟨l,xs,rfl,hl,h1,h2,q⟩:=h
 refine ⟨_,ze (zi (qN (zq zX rfl G.isinstance zE (z0 (pv 0) (z0 (Qu "list" rfl G.list jg) z8)))
  (qV (J1 z0s z0s zh (zq zu rfl G.len zK (z0 (pv 0) z8)) (qC rfl G.rows))))),?_⟩
 refine ⟨_,rfl,_,"list",_,true,rfl,.lst hl,rfl,_,rfl,iteT ?_⟩
 refine ⟨_,rfl,l,_,rfl,.inl (SqL.of hl),_,_,rfl,rfl,_,rfl,?_⟩
 have e1:decide ((1:Int)≤(xs.length:Int))=true:=ki (by lia)
 have e2:decide ((xs.length:Int)≤150)=true:=ki (by lia)
 rw [e1]
 refine iteT ⟨_,_,rfl,rfl,?_⟩
 show Q (.bl (decide ((xs.length:Int)≤150))) H
 rw [e2]
 exact q
structure Code (rs:List Row):Prop where
 ok:∀r∈rs,Zi r
 fit:∀i r,rs[i]?=some r→jr rs i r=true
 lo:1≤rs.length
 hi:rs.length≤150
def z0k:Sp:=fun vs H Q _=>∃l as rs,vs=[.ref l]∧H l=some (.lst (as.map V.ref))∧zr H as rs∧Code rs∧∀H',Same H H'→Q .non H'
theorem sc35:zf ["thing","place"] ["thing"] (zb (top 35)):=fsM
theorem z5b (D:zk K mg "check_code" (top 35)) (FH:FN P w K mg base 1 "has_places" ["thing"] z6o) (FB:FN P w K mg base 8 "first_bad_place" ["rows"] (z6r K)):FN P w K mg base 9 "check_code" ["thing"] z0k:=by
 refine FN.o D sc35 fun f cdv A outer s H vs Q E hr h=>?_
 obtain ⟨l,as,rs,rfl,hl,hR,hC,q⟩:=h
 refine ⟨_,z7 (zQ (jc (qy (zm FH (hr.mono (by decide)) rfl (z0 (pv 0) z8)))) qu zt)
  (z7 (zw (i:=1) sc35.nd rfl (Or.inl rfl) (zm FB hr rfl (z0 (pv 0) z8)))
  (ze (zQ (zl jL (pv 1) zR (zo _)) qu zt))),?_⟩
 have hll:as.length=rs.length:=hR.len
 refine ⟨_,rfl,l,_,rfl,hl,by rw [kj,hll];exact hC.lo,by rw [kj,hll];exact hC.hi,_,rfl,iteF ?_⟩
 refine ⟨_,rfl,l,as,rs,rfl,SqL.of hl,hR,hC.ok,ku hC.hi (by decide),fun H' s' _=>?_,fun i r H' s' hi hf _=>?_⟩
 ·exact ⟨_,rfl,rfl,_,rfl,iteF (q H' s')⟩
 ·rw [hC.fit i r hi] at hf
  cases hf
end
noncomputable def qB:List (Str × Int):=[("store",1),("drop",1),("add",2),("sub",2),("mul",2),("div",2),("rest",2),("less",2),("same",2),("neg",1),("not",1),("tell",1),("iftrue",1),("iffalse",1),("ortrue",1),("orfalse",1),("return",1),("raise",1)]
noncomputable def qE:List (Str × Int):=[("push",1),("load",1),("quick",1),("copy",1),("add",1),("sub",1),("mul",1),("div",1),("rest",1),("less",1),("same",1),("neg",1),("not",1)]
noncomputable def qj:List (Str × Int):=[("try",1),("endtry",-1)]
noncomputable def jumping:List Str:=["jump","iftrue","iffalse","ortrue","orfalse"]
noncomputable def leaving:List Str:=["ortrue","orfalse"]
noncomputable def qc:List Str:=["jump","return","raise"]
noncomputable def faulting:List Str:=["load","clear","add","sub","mul","div","rest","less","neg","raise"]
noncomputable def JJ (t:List (Str × Int)):List (Str × V):=t.map fun p=>(p.1,V.int p.2)
noncomputable def tabI (t:List (Str × Int)) (x:Str):Int:=(t.lookup x).getD 0
theorem Z9 (t:List (Str × Int)) (x:Str):((JJ t).lookup x).getD (.int 0)=.int (tabI t x):=by
 unfold JJ tabI
 rw [Zr]
 cases t.lookup x <;> rfl
def KTup (K:ky) (a:Addr) (xs:List V):Prop:=
 ∃(o:Obj) (its:Array Value) (n:Nat),K.lookup a=some o∧o.cls=.type "tuple"∧o.data=.seq its n∧its.size≤sizeLine∧Vals xs its.toList
theorem KTup.sq {K:ky} {a:Addr} {xs:List V} (h:KTup K a xs) (H:Hp):SqT K H a xs:=.inr h
structure z5u (w:World) (K:ky) (mg:Str→Option Value):Prop where
 takes:∃d,mg "TAKES"=some (.ref d)∧KTab w.params K d (JJ qB)
 pushes:∃d,mg "PUSHES"=some (.ref d)∧KTab w.params K d (JJ qE)
 gput:∃d,mg "GUARDS_PUT"=some (.ref d)∧KTab w.params K d (JJ qj)
 jumping:∃a,mg "JUMPING"=some (.ref a)∧KTup K a (jumping.map V.str)
 leaving:∃a,mg "LEAVING"=some (.ref a)∧KTup K a (leaving.map V.str)
 never:∃a,mg "NEVER_ON"=some (.ref a)∧KTup K a (qc.map V.str)
 faulting:∃a,mg "FAULTING"=some (.ref a)∧KTup K a (faulting.map V.str)
 first:∃a g,mg "FIRST_STATE"=some (.ref a)∧KTup K a [.int 0,.ref g]∧KTup K g []
noncomputable def inT (x:Str) (l:List Str):Bool:=inV (.str x) (l.map V.str)
theorem Zt {x:Str} {l:List Str}:inT x l=true↔x∈l:=by
 unfold inT inV
 rw [List.any_map,List.any_eq_true]
 constructor
 ·rintro ⟨y,hy,e⟩
  have e:(y == x)=true:=e
  rw [beq_iff_eq] at e
  exact e▸hy
 ·exact fun h=>⟨x,h,by show (x == x)=true;simp⟩
theorem jA (l:List Str):(l.map V.str).all jB=true:=by
 rw [List.all_map,List.all_eq_true]
 exact fun _ _=>rfl
noncomputable def qY:List Str:=["copy","swap"]
noncomputable def qZ (r:Row):Int:=if inT r.op qY=true then (match r.arg with | .int n=>n | _=>0) else tabI qB r.op
abbrev Gd:=Int × Int
def jD (H:Hp) (x:V):Option Gd→Prop
 | none=>x=.non
 | some g=>∃a,x=.ref a∧H a=some (.tup [.int g.1,.int g.2])
theorem jD.same {H H':Hp} {x:V} {og:Option Gd} (h:jD H x og) (s:Same H H'):jD H' x og:=by
 cases og with
 | none=>exact h
 | some g=>
  obtain ⟨a,e,h⟩:=h
  exact ⟨a,e,s _ _ h⟩
noncomputable def Qy (r:Row) (og:Option Gd):Bool:=decide (r.op="endtry")&&og.isNone
noncomputable def jQ (r:Row) (d:Int) (og:Option Gd):Bool:=match og with
 | none=>false
 | some g=>if r.op="copy" then false else decide ((if d - qZ r > 0 then d - qZ r else 0) < (if g.2 < d then g.2 else d))
theorem z23 {r:Row} (hok:Zi r) (h:inT r.op qY=true):∃n:Int,r.arg=.int n∧1≤n∧n≤9:=by
 obtain ⟨s,hs,hfit,_⟩:=hok.parts
 rw [Zt] at h
 rcases kD.mp h with h | h
 ·rw [h,show zM "copy"=some "copied" by trivial] at hs
  cases hs
  have e:Zc "copied" r.arg=Je r.arg:=by
   unfold Zc
   rw [kz (by trivial),kz (by trivial),kA rfl]
  rw [e] at hfit
  exact qi hfit
 ·rw [ko.mp h,show zM "swap"=some "swapped" by trivial] at hs
  cases hs
  have e:Zc "swapped" r.arg=ZL r.arg:=by
   unfold Zc
   rw [kz (by trivial),kz (by trivial),kz (by trivial),kA rfl]
  rw [e] at hfit
  obtain ⟨n,h1,h2,h3⟩:=qi hfit
  exact ⟨n,h1,by lia,h3⟩
theorem qa {K:ky} {H H':Hp} {a:Addr} {xs:List V} (s:Same H H') (h:SqT K H a xs):SqT K H' a xs:=by
 rcases h with (h | ⟨o,h⟩) | h
 ·exact .inl (.inl (s _ _ h))
 ·exact .inl (.inr ⟨o,s _ _ h⟩)
 ·exact .inr h
section
def spUp (K:ky):Sp:=fun vs H Q _=>∃(g:Addr) (as:List Addr),vs=[.ref g]∧SqT K H g (as.map V.ref)∧((as=[]∧Q .non H)∨∃bs a,as=bs++[a]∧Q (.ref a) H)
theorem sc45:zf ["guards"] ["guards"] (zb (top 45)):=fsM
theorem z9A (D:zk K mg "uppermost" (top 45)):FN P w K mg base 1 "uppermost" ["guards"] (spUp K):=by
 refine FN.o D sc45 fun f cdv A outer s H vs Q E hr h=>?_
 obtain ⟨g,as,rfl,hS,q⟩:=h
 refine ⟨_,ze (zi (jo (jZ (pv 0) (fun _=>rfl)) (zD zU (pv 0) (Zp jb zh) (fun _ _=>rfl)) zR)),?_⟩
 rcases q with ⟨rfl,q⟩ | ⟨bs,a,rfl,q⟩
 ·exact ⟨_,rfl,false,.inr (.inl ⟨_,hS,rfl⟩),iteF q⟩
 ·refine ⟨_,rfl,true,.inr (.inl ⟨_,hS,by simp⟩),iteT ⟨_,rfl,1,rfl,g,_,_,.ref a,rfl,rfl,hS,?_,q⟩⟩
  rw [kJ]
  exact z1n _ _
def z0l:Sp:=fun vs H Q _=>∃a r,vs=[.ref a]∧H a=some (.tup (tupV r))∧Zi r∧∀H',Same H H'→Q (.int (qZ r)) H'
theorem sc46:zf ["row","op","arg"] ["row"] (zb (top 46)):=fsM
theorem z5c (D:zk K mg "depth_asked" (top 46)) (T:z5u w K mg):FN P w K mg base 1 "depth_asked" ["row"] z0l:=by
 refine FN.o D sc46 fun f cdv A outer s H vs Q E hr h=>?_
 obtain ⟨a,r,rfl,ha,hok,q⟩:=h
 obtain ⟨d,md,td⟩:=T.takes
 refine ⟨_,z7 (Jv (i:=1) (j:=2) rfl sc46.nd rfl rfl (by decide) rfl rfl (z0 (zD zU (pv 0) zh (fun _ _=>rfl)) (z0 (zD zU (pv 0) zh (fun _ _=>rfl)) z8)) rfl)
  (ze (zi (jo (zl qX (pv 1) (zI (z0 zx (z0 zx z8))) rfl) (pv 2) (ZP td rfl md (pv 1) zh ⟨rfl,rfl,rfl,rfl⟩)))),?_⟩
 refine ⟨_,rfl,a,_,_,_,rfl,rfl,SqT.of ha,zj (j:=0) rfl,_,rfl,a,_,_,_,rfl,rfl,SqT.of ha,zj (j:=1) rfl,_,_,rfl,?_⟩
 refine ⟨_,rfl,by show 2≤sizeLine;decide,fun p hp=>?_⟩
 have s1:=zg hp (.tup (qY.map V.str))
 refine ⟨p,_,rfl,.inr (SqT.of (xs:=qY.map V.str) z6),rfl,jA _,_,rfl,?_⟩
 have q:=q _ s1
 unfold qZ at q
 refine ite2 (fun c=>?_) (fun c=>?_)
 ·have c':inT r.op qY=true:=c
  obtain ⟨n,en,_⟩:=z23 hok c'
  rw [kA c',en] at q
  refine ⟨r.arg,rfl,?_⟩
  rw [en]
  exact q
 ·have c':¬inT r.op qY=true:=c
  rw [kz c'] at q
  refine ⟨_,rfl,r.op,rfl,?_⟩
  rw [Z9]
  exact q
def z0i:Sp:=fun vs H Q _=>∃a r d,vs=[.ref a,.int d]∧H a=some (.tup (tupV r))∧Zi r∧∀H',Same H H'→Q (.bl (decide (d < qZ r))) H'
theorem sc47:zf ["row","depth"] ["row","depth"] (zb (top 47)):=fsM
theorem z54 (D:zk K mg "lacks_values" (top 47)) (F1:FN P w K mg base 1 "depth_asked" ["row"] z0l):FN P w K mg base 2 "lacks_values" ["row","depth"] z0i:=by
 refine FN.o D sc47 fun f cdv A outer s H vs Q E hr h=>?_
 obtain ⟨a,r,d,rfl,ha,hok,q⟩:=h
 refine ⟨_,ze (zi (qg z4A (pv 1) (zm F1 hr rfl (z0 (pv 0) z8)) (zo _))),?_⟩
 exact ⟨_,rfl,_,rfl,a,r,rfl,ha,hok,fun H' s'=>⟨_,_,rfl,rfl,q H' s'⟩⟩
def z0j:Sp:=fun vs H Q _=>∃a r gv og,vs=[.ref a,gv]∧H a=some (.tup (tupV r))∧jD H gv og∧Q (.bl (Qy r og)) H
theorem sc48:zf ["row","guard"] ["row","guard"] (zb (top 48)):=fsM
theorem z3x {H:Hp} {x:V} {og:Option Gd} (h:jD H x og):decide (x=.non)=og.isNone:=by
 cases og with
 | none=>rw [show x=.non from h];rfl
 | some g=>obtain ⟨a,e,_⟩:=h;rw [e];rfl
theorem z55 (D:zk K mg "lacks_guard" (top 48)):FN P w K mg base 1 "lacks_guard" ["row","guard"] z0j:=by
 refine FN.o D sc48 fun f cdv A outer s H vs Q E hr h=>?_
 obtain ⟨a,r,gv,og,rfl,ha,hg,q⟩:=h
 refine ⟨_,ze (zi (qN (qg qz (zD zU (pv 0) zh (fun _ _=>rfl)) zx (zo _)) (qV (qg Q7 (pv 1) zR (zo _))))),?_⟩
 refine ⟨_,rfl,a,_,_,_,rfl,rfl,SqT.of ha,zj (j:=0) rfl,rfl,_,rfl,?_⟩
 unfold Qy at q
 rw [←z3x hg] at q
 refine ite2 (fun c=>?_) (fun c=>?_)
 ·have e:r.op="endtry":=by have:=kC c;injection this
  rw [ki e,Bool.true_and] at q
  exact ⟨_,rfl,rfl,q⟩
 ·have e:¬r.op="endtry":=fun z=>c (by rw [z];rfl)
  rw [kh e,Bool.false_and] at q
  exact q
def Jp:Sp:=fun vs H Q _=>∃a r d gv og,vs=[.ref a,.int d,gv]∧H a=some (.tup (tupV r))∧Zi r∧jD H gv og∧∀H',Same H H'→Q (.bl (jQ r d og)) H'
theorem sc49:zf ["row","depth","guard","lowest"] ["row","depth","guard"] (zb (top 49)):=fsM
theorem z5q:bootBuiltins "max"=some (.builtin "max"):=by trivial
theorem z5p:bootBuiltins "min"=some (.builtin "min"):=by trivial
theorem z1X (D:zk K mg "takes_beneath" (top 49)) (G:Glo mg) (F1:FN P w K mg base 1 "depth_asked" ["row"] z0l):FN P w K mg base 2 "takes_beneath" ["row","depth","guard"] Jp:=by
 refine FN.o D sc49 fun f cdv A outer s H vs Q E hr h=>?_
 obtain ⟨a,r,d,gv,og,rfl,ha,hok,hg,q⟩:=h
 refine ⟨_,z7 (zQ (PW.pt (Qt (zl Q7 (pv 2) zR (zo _)) (jY (zl qz (zD zU (pv 0) zh (fun _ _=>rfl)) zx (zo _))))) (ze (zi Qv)) zt)
  (z7 (zw (i:=3) sc49.nd rfl (Or.inl rfl) (zq (z46 rfl) rfl G.max z5q (z0 zh (z0 (zN QG (pv 1) (zm F1 hr rfl (z0 (pv 0) z8))) z8))))
  (ze (zi (qg z4A (pv 3) (zq (z45 rfl) rfl G.min z5p (z0 (pv 1) (z0 (zD zU (pv 2) zh (fun _ _=>rfl)) z8))) (zo _))))),?_⟩
 refine ⟨_,rfl,rfl,_,rfl,?_⟩
 cases og with
 | none=>
  have e:gv=.non:=hg
  subst e
  exact iteT (iteT (q H (Same.refl _)))
 | some g=>
  obtain ⟨ga,rfl,hga⟩:=hg
  refine iteF ⟨_,rfl,a,_,_,_,rfl,rfl,SqT.of ha,zj (j:=0) rfl,rfl,_,rfl,?_⟩
  unfold jQ at q
  refine ite2 (fun c=>?_) (fun c=>?_)
  ·have e:r.op="copy":=by have:=kC c;injection this
   simp only [kA e] at q
   exact q H (Same.refl _)
  ·have e:¬r.op="copy":=fun z=>c (by rw [z];rfl)
   simp only [kz e] at q
   refine ⟨_,rfl,_,rfl,a,r,rfl,ha,hok,fun H' s'=>⟨_,_,rfl,rfl,_,_,rfl,?_⟩⟩
   exact ⟨_,rfl,_,rfl,_,rfl,ga,_,_,_,rfl,rfl,SqT.of (s' _ _ hga),zj (j:=1) rfl,_,_,rfl,_,_,rfl,rfl,q H' s'⟩
end
theorem PS.imp {X:Cx} {st:Stmt} {t t':TS} (h:PS X st t) (hi:∀D σ H,t' D σ H→t D σ H):PS X st t':=fun pins s σ H D I q=>h pins s σ H D I (hi D σ H q)
abbrev Mv:=V × Int × Int
abbrev jR (H:Hp):List Addr→List Mv→Prop:=Paired fun t m=>H t=some (.tup [m.1,.int m.2.1,.int m.2.2])
theorem jR.same {H H':Hp} {ts:List Addr} {ms:List Mv} (h:jR H ts ms) (k:∀a xs,H a=some (.tup xs)→H' a=some (.tup xs)):jR H' ts ms:=Paired.mapP h fun _ _ e=>k _ _ e
theorem jR.append {H:Hp} {as bs:List Addr} {rs ts:List Mv} (h:jR H as rs) (k:jR H bs ts):jR H (as++bs) (rs++ts):=z0Y h k
theorem jR.get {H:Hp} {as:List Addr} {rs:List Mv} {i:Nat} {x:V} (h:jR H as rs) (e:(as.map V.ref)[i]?=some x):∃a r,x=.ref a∧rs[i]?=some r∧H a=some (.tup [r.1,.int r.2.1,.int r.2.2]):=z2S h e
noncomputable def zV (r:Row) (d:Int):Int:=d - tabI qB r.op+tabI qE r.op
noncomputable def labV (rs:List Row) (m:Int):V:=match zF rs m with
 | some j=>.int (j:Nat)
 | none=>.non
noncomputable def argM (x:V):Int:=match x with
 | .int m=>m
 | _=>0
noncomputable def mv1 (r:Row) (place:Nat) (d:Int):List Mv:=if inT r.op qc=true then [] else [(.int ((place:Int)+1),zV r d,tabI qj r.op)]
noncomputable def mv2 (rs:List Row) (r:Row) (d:Int):List Mv:=if inT r.op jumping=true then [(labV rs (argM r.arg),if inT r.op leaving=true then d else zV r d,0)] else []
noncomputable def mv3 (rs:List Row) (r:Row) (og:Option Gd):List Mv:=if inT r.op faulting=true then (match og with | some g=>[(labV rs g.1,g.2+1,-1)] | none=>[]) else []
noncomputable def qF (rs:List Row) (place:Nat) (r:Row) (d:Int) (og:Option Gd):List Mv:=if decide (d < qZ r)=true then [] else if Qy r og=true then [] else mv1 r place d++mv2 rs r d++mv3 rs r og
theorem z4H {rs:List Row} {i:Nat} {r:Row} (hc:Code rs) (hr:rs[i]?=some r) (h:inT r.op jumping=true):∃(m:Int) (j:Nat),r.arg=.int m∧zF rs m=some j:=by
 have hok:=hc.ok r (kG hr)
 obtain ⟨s,hs,hfit,_⟩:=hok.parts
 have hm:zM r.op=some ("mark":Str)∧r.op≠"label":=by
  rw [Zt] at h
  have all:∀x∈jumping,zM x=some ("mark":Str)∧x≠"label":=by trivial
  exact all _ h
 rw [hm.1] at hs
 cases hs
 obtain ⟨m,em,_,_⟩:=Z5 hfit
 have hf:=hc.fit i r hr
 unfold jr at hf
 rw [kz hm.2,kA hm.1,em] at hf
 obtain ⟨j,hj⟩:=Option.isSome_iff_exists.mp hf
 exact ⟨m,j,em,hj⟩
def sMv (σ0:Addr→L2.St) (Hin:Hp) (new:List Mv):TS:=fun D σ H=>∃(fa:Addr) (ts:List Addr) (ms:List Mv),σ=σ0 fa∧Hin fa=none∧Same Hin H∧H fa=some (.lst (ts.map V.ref))∧jR H ts ms∧ts.length≤100∧
 ∀H' ts',Same Hin H'→H' fa=some (.lst (ts'.map V.ref))→jR H' ts' (ms++new)→ts'.length≤ts.length+1→D.nx (σ0 fa) H'
theorem z3d {Hin H:Hp} {fa p:Addr} {ts:List Addr} {ms:List Mv} {m:Mv} (hn:Hin fa=none) (sm:Same Hin H) (hf:H fa=some (.lst (ts.map V.ref))) (hM:jR H ts ms) (hp:H p=none):
  Same Hin (upd (upd H p (.tup [m.1,.int m.2.1,.int m.2.2])) fa (.lst (ts.map V.ref++[.ref p])))∧upd (upd H p (.tup [m.1,.int m.2.1,.int m.2.2])) fa (.lst (ts.map V.ref++[.ref p])) fa=some (.lst ((ts++[p]).map V.ref))∧
   jR (upd (upd H p (.tup [m.1,.int m.2.1,.int m.2.2])) fa (.lst (ts.map V.ref++[.ref p]))) (ts++[p]) (ms++[m]):=by
 have npf:p≠fa:=(zc hf hp).symm
 have kt:∀a xs,(upd H p (.tup [m.1,.int m.2.1,.int m.2.2])) a=some (.tup xs)→(upd (upd H p (.tup [m.1,.int m.2.1,.int m.2.2])) fa (.lst (ts.map V.ref++[.ref p]))) a=some (.tup xs):=fun a xs e=>by
  rw [zd (fun z=>by rw [z,zd npf.symm,hf] at e;cases e)];exact e
 refine ⟨fun b o e=>?_,?_,jR.append ((hM.same fun a xs e=>?_).same kt) (.cons ?_ .nil)⟩
 ·have e2:=sm b o e
  rw [zd (zc e hn),zd (zc e2 hp)]
  exact e2
 ·rw [z6,kJ]
  rfl
 ·rw [zd (zc e hp)];exact e
 ·exact kt _ _ z6
section
structure z0b (K:ky) (H:Hp) (l d:Addr) (rs:List Row):Prop where
 rows:∃as,SqL K H l (as.map V.ref)∧zr H as rs
 code:Code rs
 labs:∃kvs,H d=some (.dK kvs)∧Zz kvs rs
theorem zr.get' {H:Hp} {as:List Addr} {rs:List Row} {i:Nat} {r:Row} (h:zr H as rs) (e:rs[i]?=some r):∃a,(as.map V.ref)[i]?=some (.ref a)∧H a=some (.tup (tupV r)):=by
 have hi:i < rs.length:=(kf.mp e).1
 obtain ⟨a,r',h1,h2,h3⟩:=zr.get (i:=i) (x:=(as.map V.ref)[i]'(by rw [kj,h.len];exact hi)) h (kK _)
 rw [e] at h2
 cases h2
 exact ⟨a,by rw [←h1];exact kK _,h3⟩
def z0h (K:ky):Sp:=fun vs H Q _=>∃l d place dep gv og rs r,vs=[.ref l,.ref d,.int (place:Nat),.int dep,gv]∧z0b K H l d rs∧rs[place]?=some r∧jD H gv og∧
 ∀f ts H',Same H H'→H f=none→H' f=some (.lst (ts.map V.ref))→jR H' ts (qF rs place r dep og)→Q (.ref f) H'
theorem sc50:zf ["code","labels","place","depth","guard","row","op","arg","behind","found"] ["code","labels","place","depth","guard"] (zb (top 50)):=fsM
theorem z50 (D:zk K mg "moves" (top 50)) (T:z5u w K mg) (FV:FN P w K mg base 2 "lacks_values" ["row","depth"] z0i) (FG:FN P w K mg base 1 "lacks_guard" ["row","guard"] z0j):
  FN P w K mg base 3 "moves" ["code","labels","place","depth","guard"] (z0h K):=by
 refine FN.o D sc50 fun f cdv A outer s H vs Q E hr h=>?_
 obtain ⟨l,d,place,dep,gv,og,rs,r,rfl,hC,hrp,hg,q⟩:=h
 have hu:=Qg hr
 obtain ⟨⟨as,hS,hR⟩,hc,kvs,hd,hL⟩:=id hC
 obtain ⟨ra,hra,har⟩:=hR.get' hrp
 have hro:=hc.ok r (kG hrp)
 obtain ⟨d1,md1,td1⟩:=T.takes
 obtain ⟨d2,md2,td2⟩:=T.pushes
 obtain ⟨d3,md3,td3⟩:=T.gput
 obtain ⟨a1,ma1,ta1⟩:=T.never
 obtain ⟨a2,ma2,ta2⟩:=T.jumping
 obtain ⟨a3,ma3,ta3⟩:=T.leaving
 obtain ⟨a4,ma4,ta4⟩:=T.faulting
 let σ0:Addr→L2.St:=fun fa=>[some (.ref l),some (.ref d),some (.int (place:Nat)),some (.int dep),some gv,some (.ref ra),some (.str r.op),some r.arg,some (.int (zV r dep)),some (.ref fa)]
 refine ⟨_,z7 (zw (i:=5) sc50.nd rfl (Or.inl rfl) (zD zG (pv 0) (pv 2) (fun _ _=>rfl)))
  (z7 (Jv (i:=6) (j:=7) rfl sc50.nd rfl rfl (by decide) rfl rfl (z0 (zD zU (pv 5) zh (fun _ _=>rfl)) (z0 (zD zU (pv 5) zh (fun _ _=>rfl)) z8)) rfl)
  (z7 (zQ (PW.pt (Qt (qy (zm FV hr rfl (z0 (pv 5) (z0 (pv 3) z8)))) (jY (qy (zm FG (hr.mono (by decide)) rfl (z0 (pv 5) (z0 (pv 4) z8))))))) (ze (zi (qv z8))) zt)
  (z7 (zw (i:=8) sc50.nd rfl (Or.inl rfl) (zN qO (zN QG (pv 3) (ZP td1 rfl md1 (pv 6) zh ⟨rfl,rfl,rfl,rfl⟩)) (ZP td2 rfl md2 (pv 6) zh ⟨rfl,rfl,rfl,rfl⟩)))
  (z7 (zw (i:=9) sc50.nd rfl (Or.inl rfl) (qv z8))
  (z7 (PS.imp (t':=sMv σ0 H (mv1 r place dep)) (zQ (zl Jz (pv 6) (zO rfl ma1 (v:=.ref a1) rfl) rfl) (ze (zy (je (pv 9)
    (z0 (zI (z0 (zN qO (pv 2) zh) (z0 (pv 8) (z0 (ZP td3 rfl md3 (pv 6) zh ⟨rfl,rfl,rfl,rfl⟩) z8)))) z8)))) zt) ?m1)
  (z7 (PS.imp (t':=sMv σ0 H (mv2 rs r dep)) (zQ (zl qX (pv 6) (zO rfl ma2 (v:=.ref a2) rfl) rfl) (ze (zy (je (pv 9)
    (z0 (zI (z0 (Zq hu (pv 1) (pv 7) (fun _ _=>rfl)) (z0 (jo (zl qX (pv 6) (zO rfl ma3 (v:=.ref a3) rfl) rfl) (pv 3) (pv 8)) (z0 zh z8)))) z8)))) zt) ?m2)
  (z7 (PS.imp (t':=sMv σ0 H (mv3 rs r og)) (zQ (PW.pt (Jt (zl qX (pv 6) (zO rfl ma4 (v:=.ref a4) rfl) rfl) (Q0 (zl jL (pv 4) zR (zo _))))) (ze (zy (je (pv 9)
    (z0 (zI (z0 (z11 hu (pv 1) (zD zU (pv 4) zh (fun _ _=>rfl)) ⟨rfl,rfl,rfl,rfl⟩) (z0 (zN qO (zD zU (pv 4) zh (fun _ _=>rfl)) zh) (z0 (Zp jb zh) z8)))) z8)))) zt) ?m3)
  (ze (zi (pv 9)))))))))),?_⟩
 case m1=>
  rintro D σ H1 ⟨fa,ts,ms,rfl,hn,sm,hf,hM,hl,k⟩
  refine ⟨_,rfl,a1,_,rfl,.inr (ta1.sq _),rfl,jA _,_,rfl,?_⟩
  unfold mv1 at k
  refine ite2 (fun c=>?_) (fun c=>?_)
  ·have c':¬inT r.op qc=true:=by
    intro z
    have c:(!inT r.op qc)=true:=c
    rw [z] at c;cases c
   rw [kz c'] at k
   refine ⟨_,rfl,.inl ⟨rfl,_,SqL.of hf⟩,_,rfl,_,_,rfl,rfl,_,rfl,_,rfl,r.op,rfl,by show 3≤sizeLine;decide,fun p hp=>?_⟩
   rw [Z9]
   obtain ⟨k1,k2,k3⟩:=z3d (m:=(.int ((place:Int)+1),zV r dep,tabI qj r.op)) hn sm hf hM hp
   exact ⟨fa,_,.ref p,rfl,rfl,by rw [zd (zc hf hp)];exact hf,ql (by rw [kj];lia),k _ _ k1 k2 k3 (by simp)⟩
  ·have c':inT r.op qc=true:=by
    cases z:inT r.op qc with
    | true=>rfl
    | false=>exact absurd (show (!inT r.op qc)=true by rw [z];rfl) c
   rw [kA c'] at k
   exact k H1 ts sm hf (by rw [kU];exact hM) (by lia)
 case m2=>
  rintro D σ H1 ⟨fa,ts,ms,rfl,hn,sm,hf,hM,hl,k⟩
  refine ⟨_,rfl,a2,_,rfl,.inr (ta2.sq _),rfl,jA _,_,rfl,?_⟩
  unfold mv2 at k
  refine ite2 (fun c=>?_) (fun c=>?_)
  ·have c':inT r.op jumping=true:=c
   rw [kA c'] at k
   obtain ⟨m,j,em,hj⟩:=z4H hc hrp c'
   have hv:valV kvs (Sum.inl m:Key)=some (.int (j:Int)):=by rw [hL m,hj];rfl
   have hgt:DGet H1 d r.arg (some (.int (j:Int))):=by rw [em,←hv];exact DGet.k (k:=Sum.inl m) (sm _ _ hd)
   refine ⟨_,rfl,.inl ⟨rfl,_,SqL.of hf⟩,_,rfl,_,rfl,d,_,rfl,hgt,_,rfl,a3,_,rfl,.inr (ta3.sq _),rfl,jA _,_,rfl,?_⟩
   have el:labV rs (argM r.arg)=.int (j:Nat):=by
    rw [em]
    show labV rs m=_
    unfold labV
    rw [hj]
   rw [el] at k
   have fin:∀x:Int,(if inT r.op leaving=true then dep else zV r dep)=x→∀p,H1 p=none→z0o (.ref fa) [.ref p] (upd H1 p (.tup [.int (j:Nat),.int x,.int 0])) (fun _ H2=>D.nx (σ0 fa) H2):=fun x ex p hp=>by
    rw [ex] at k
    obtain ⟨k1,k2,k3⟩:=z3d (m:=(.int (j:Nat),x,0)) hn sm hf hM hp
    exact ⟨fa,_,.ref p,rfl,rfl,by rw [zd (zc hf hp)];exact hf,ql (by rw [kj];lia),k _ _ k1 k2 k3 (by simp)⟩
   refine ite2 (fun c2=>?_) (fun c2=>?_)
   ·have c2':inT r.op leaving=true:=c2
    exact ⟨_,rfl,by show 3≤sizeLine;decide,fin dep (kA c2')⟩
   ·have c2':¬inT r.op leaving=true:=c2
    exact ⟨_,rfl,by show 3≤sizeLine;decide,fin _ (kz c2')⟩
  ·have c':¬inT r.op jumping=true:=c
   rw [kz c'] at k
   exact k H1 ts sm hf (by rw [kU];exact hM) (by lia)
 case m3=>
  rintro D σ H1 ⟨fa,ts,ms,rfl,hn,sm,hf,hM,hl,k⟩
  refine ⟨_,rfl,a4,_,rfl,.inr (ta4.sq _),rfl,jA _,_,rfl,?_⟩
  unfold mv3 at k
  refine ite2 (fun c=>?_) (fun c=>?_)
  ·have c':inT r.op faulting=true:=c
   rw [kA c'] at k
   have hg1:=hg.same sm
   refine ⟨_,rfl,rfl,_,rfl,?_⟩
   cases og with
   | none=>
    have e:gv=.non:=hg
    rw [e]
    exact iteF (k H1 ts sm hf (by rw [kU];exact hM) (by lia))
   | some g=>
    obtain ⟨ga,eg,hga⟩:=hg1
    rw [kh (show ¬gv=.non by rw [eg];exact nofun)]
    have hgt:DGet H1 d (.int g.1) (valV kvs (Sum.inl g.1:Key)):=DGet.k (k:=Sum.inl g.1) (sm _ _ hd)
    have ev:(valV kvs (Sum.inl g.1:Key)).getD .non=labV rs g.1:=by
     rw [hL]
     unfold labV
     cases zF rs g.1 <;> rfl
    have eσ:(σ0 fa)[4]?=some (some (.ref ga)):=by rw [←eg];rfl
    refine iteT ⟨_,rfl,.inl ⟨rfl,_,SqL.of hf⟩,_,rfl,d,rfl,.inl ⟨kvs,.inl (sm _ _ hd)⟩,_,eσ,ga,_,_,_,rfl,rfl,SqT.of hga,zj (j:=0) rfl,_,hgt,_,eσ,ga,_,_,_,rfl,rfl,SqT.of hga,zj (j:=1) rfl,_,_,rfl,rfl,1,rfl,by show 3≤sizeLine;decide,fun p hp=>?_⟩
    rw [ev]
    obtain ⟨k1,k2,k3⟩:=z3d (m:=(labV rs g.1,g.2+1,-1)) hn sm hf hM hp
    exact ⟨fa,_,.ref p,rfl,rfl,by rw [zd (zc hf hp)];exact hf,ql (by rw [kj];lia),k _ _ k1 k2 k3 (by simp)⟩
  ·have c':¬inT r.op faulting=true:=c
   rw [kz c'] at k
   exact iteF (k H1 ts sm hf (by rw [kU];exact hM) (by lia))
 refine ⟨_,rfl,_,rfl,l,_,_,_,rfl,rfl,hS,zj hra,?_⟩
 refine ⟨_,rfl,ra,_,_,_,rfl,rfl,SqT.of har,zj (j:=0) rfl,_,rfl,ra,_,_,_,rfl,rfl,SqT.of har,zj (j:=1) rfl,_,_,rfl,?_⟩
 refine ⟨_,rfl,_,rfl,ra,r,dep,rfl,har,hro,fun H1 s1=>⟨_,rfl,?_⟩⟩
 have empty:∀H2,Same H H2→qF rs place r dep og=[]→∀p,H2 p=none→Q (.ref p) (upd H2 p (.lst [])):=fun H2 s2 e p hp=>by
  refine q p [] _ (My.Same.upd s2 (s2.free hp) _) (s2.free hp) z6 ?_
  rw [e]
  exact .nil
 unfold qF at q empty
 refine ite2 (fun c=>?_) (fun c=>?_)
 ·rw [kA c] at empty
  exact iteT ⟨by show 0≤sizeLine;decide,empty H1 s1 rfl⟩
 ·rw [kz c] at q empty
  refine ⟨_,rfl,_,rfl,ra,r,gv,og,rfl,s1 _ _ har,hg.same s1,_,rfl,?_⟩
  refine ite2 (fun c2=>?_) (fun c2=>?_)
  ·rw [kA c2] at empty
   exact ⟨by show 0≤sizeLine;decide,empty H1 s1 rfl⟩
  ·rw [kz c2] at q
   refine ⟨_,rfl,_,rfl,r.op,rfl,?_⟩
   rw [Z9]
   refine ⟨_,_,rfl,rfl,_,rfl,r.op,rfl,?_⟩
   rw [Z9]
   refine ⟨_,_,rfl,rfl,by show 0≤sizeLine;decide,fun fa hfa=>?_⟩
   have hn:=s1.free hfa
   refine ⟨fa,[],[],rfl,hn,My.Same.upd s1 hn _,z6,.nil,by simp,fun H3 t3 s3 f3 M3 z3=>?_⟩
   refine ⟨fa,t3,_,rfl,hn,s3,f3,M3,by simp at z3;lia,fun H4 t4 s4 f4 M4 z4=>?_⟩
   refine ⟨fa,t4,_,rfl,hn,s4,f4,M4,by simp at z3;lia,fun H5 t5 s5 f5 M5 z5=>?_⟩
   exact ⟨_,rfl,q fa t5 H5 s5 hn f5 (by simpa using M5)⟩
end
theorem Q5 {X:Cx} {pos:Pos} {K:ky} {es:List Expr} {k:Nat} {t:TGs} {n:Nat} (hK:X.K=K) (hc:X.calm=true) (h:PGs X es t)
  (hn:autoParam ((assignEach es X.env).length=n) aR._auto_1) (hst:autoParam ((assignEach es X.env).findIdx? (·.1)=none) aR._auto_1):PG X (.Tuple es k pos) (gTup K n t):=by
 subst hK
 exact j7 hc h hn hst
theorem ZW {σ:L2.St} {H:Hp} {F G:Hp→Prop} (h:F H):tAll σ H (fun b H5=>if b=true then F H5 else G H5):=by
 show (if true=true then F H else G H)
 rw [kA rfl]
 exact h
theorem nd3:(["goal","deeper","more"]:List Str).Nodup:=by trivial
theorem nd2:(["word","is_lacking"]:List Str).Nodup:=by trivial
theorem ji.plain {X:Cx} {N:List Str} {nt:Nat} {scope:Scope} (nofree:∀y∈scope.names,y.2≠.free) (nocell:∀y∈scope.names,y.2≠.cell) (kind:scope.kind=.function) (names:∀y∈scope.names,y.2=.local→scope.names.lookup y.1=some .local) (hl:N.length=nt):ji X N nt [] scope [] where
 clos:=closureFor_none nofree
 nocell:=nocell
 kind:=kind
 names:=names
 sub:=fun _ _ e=>nomatch e
 has:=fun x h=>by
  rw [z1y nofree] at h
  rcases h with h | h
  ·exact absurd h (JE nocell x)
  ·exact absurd h (JE nofree x)
 len:=by rw [hl];rfl
 free:=fun j x e=>by
  rw [List.getElem?_eq_none (by lia)] at e
  cases e
theorem Zx {K:ky} {a:Addr} {xs:List V} {g:TG} {tc:TT} {te:TE} {R:Hp→Prop} {H:Hp} {l:Addr} {σ0:L2.St} (Pv:Nat→List V→L2.St→Hp→Prop) (h0:Pv 0 [] σ0 (upd H l (.lst []))) (hl:∀i ys σ H,i≤xs.length→Pv i ys σ H→SqL K H a xs)
  (hs:∀i x ys σ H,xs[i]?=some x→Pv i ys σ H→g x σ H fun σ2 H4=>tc σ2 H4 fun b H5=>if b=true then te σ2 H5 fun v H6=>H6 l=some (.lst ys)∧ys.length < sizeLine∧∃m',m' < xs.length - i∧m'=xs.length - (i+1)∧i+1≤xs.length∧Pv (i+1) (ys++[v]) σ2 (upd H6 l (.lst (ys++[v])))
   else ∃m',m' < xs.length - i∧m'=xs.length - (i+1)∧i+1≤xs.length∧Pv (i+1) ys σ2 H5) (hd:∀ys σ H,Pv xs.length ys σ H→R H):
  ∃W:Nat→Nat→List V→L2.St→Hp→Prop,(∃m,W 0 m [] σ0 (upd H l (.lst [])))∧∀i m ys σ' H2,W i m ys σ' H2→
   ((Itl K a).stop i H2∧R H2)∨((Itl K a).go i H2∧∀x H3,(Itl K a).yld i H2 x H3→g x σ' H3 fun σ2 H4=>tc σ2 H4 fun b H5=>if b=true then te σ2 H5 fun v H6=>H6 l=some (.lst ys)∧ys.length < sizeLine∧∃m',m' < m∧W (i+1) m' (ys++[v]) σ2 (upd H6 l (.lst (ys++[v])))
    else ∃m',m' < m∧W (i+1) m' ys σ2 H5):=by
 refine ⟨fun i m ys σ H=>m=xs.length - i∧i≤xs.length∧Pv i ys σ H,⟨xs.length,by simp,Nat.zero_le _,h0⟩,?_⟩
 rintro i m ys σ H ⟨rfl,hi,p⟩
 have q:=hl i ys σ H hi p
 by_cases hlt:i < xs.length
 ·refine .inr ⟨⟨xs,xs[i],q,by simp [hlt]⟩,fun x H' y=>?_⟩
  obtain ⟨e,y⟩:=y
  subst e
  exact hs i x ys σ _ (y xs q) p
 ·have e:i=xs.length:=by lia
  subst e
  exact .inl ⟨⟨xs,q,ke _⟩,hd ys σ H p⟩
theorem QO {a l:Addr} {kvs:List (Key × V)} {o:Obj} {g:TG} {tc:TT} {te:TE} {Q:VK} {H:Hp} {σ0:L2.St} (Pv:Nat→List V→L2.St→Hp→Prop) (h0:Pv 0 [] σ0 (upd H l (.lst []))) (hf:∀i ys σ H,Pv i ys σ H→H a=some (.frz o (.dK kvs)))
  (hs:∀i p k v ys σ H,kvs[i]?=some (k,v)→Pv i ys σ H→H p=none→g (.ref p) σ (upd H p (.tup [kV k,v])) fun σ2 H4=>tc σ2 H4 fun b H5=>if b=true then te σ2 H5 fun v H6=>H6 l=some (.lst ys)∧ys.length < sizeLine∧∃m',m' < kvs.length - i∧m'=kvs.length - (i+1)∧i+1≤kvs.length∧Pv (i+1) (ys++[v]) σ2 (upd H6 l (.lst (ys++[v])))
   else ∃m',m' < kvs.length - i∧m'=kvs.length - (i+1)∧i+1≤kvs.length∧Pv (i+1) ys σ2 H5) (hd:∀ys σ H,Pv kvs.length ys σ H→Q (.ref l) (upd H a (.dK kvs))):
  ∃W:Nat→Nat→List V→L2.St→Hp→Prop,(∃m,W 0 m [] σ0 (upd H l (.lst [])))∧∀i m ys σ' H2,W i m ys σ' H2→
   H2 a=some (.frz o (.dK kvs))∧(kvs.length≤i→Q (.ref l) (upd H2 a (.dK kvs)))∧(∀p k v,kvs[i]?=some (k,v)→H2 p=none→g (.ref p) σ' (upd H2 p (.tup [kV k,v])) fun σ2 H4=>tc σ2 H4 fun b H5=>if b=true then te σ2 H5 fun v H6=>H6 l=some (.lst ys)∧ys.length < sizeLine∧∃m',m' < m∧W (i+1) m' (ys++[v]) σ2 (upd H6 l (.lst (ys++[v])))
    else ∃m',m' < m∧W (i+1) m' ys σ2 H5):=by
 refine ⟨fun i m ys σ H=>m=kvs.length - i∧i≤kvs.length∧Pv i ys σ H,⟨kvs.length,by simp,Nat.zero_le _,h0⟩,?_⟩
 rintro i m ys σ H ⟨rfl,hi,p⟩
 refine ⟨hf i ys σ H p,fun hle=>?_,fun p' k v hkv hp=>hs i p' k v ys σ H hkv p hp⟩
 have e:i=kvs.length:=by lia
 subst e
 exact hd ys σ H p
noncomputable def ZU (rs:List Row) (place:Nat) (r:Row) (d:Int) (og:Option Gd):List (Str × Bool):=
 [("takes",decide (d < qZ r)),("guard",Qy r og),("beneath",jQ r d og),("end",inV (.int (rs.length:Nat)) ((qF rs place r d og).map (·.1)))]
noncomputable def ZT (rs:List Row) (place:Nat) (r:Row) (d:Int) (og:Option Gd):List Str:=((ZU rs place r d og).filter (·.2)).map (·.1)
theorem JG (rs:List Row) (m:Int):jB (labV rs m)=true:=by
 unfold labV
 cases zF rs m <;> rfl
theorem z1G (rs:List Row) (place:Nat) (r:Row) (d:Int) (og:Option Gd):((qF rs place r d og).map (·.1)).all jB=true:=by
 rw [List.all_map,List.all_eq_true]
 intro m hm
 unfold qF at hm
 split at hm
 ·cases hm
 ·split at hm
  ·cases hm
  ·rcases kR.mp hm with hm | hm
   ·rcases kR.mp hm with hm | hm
    ·unfold mv1 at hm
     split at hm
     ·cases hm
     ·rw [ko.mp hm];rfl
    ·unfold mv2 at hm
     split at hm
     ·rw [ko.mp hm];exact JG _ _
     ·cases hm
   ·unfold mv3 at hm
    split at hm
    ·cases og with
     | none=>cases hm
     | some g=>rw [ko.mp hm];exact JG _ _
    ·cases hm
noncomputable def kvs4 (wb:List (Str × Bool)):List (Key × V):=wb.map fun p=>(Sum.inr p.1,V.bl p.2)
theorem z8e (a b c d:Bool):ZB [] (kvs4 [("takes",a),("guard",b),("beneath",c),("end",d)])=kvs4 [("takes",a),("guard",b),("beneath",c),("end",d)]:=by rfl
section
def z2h (K:ky):Sp:=fun vs H Q _=>∃l d place dep gv og rs r,vs=[.ref l,.ref d,.int (place:Nat),.int dep,gv]∧z0b K H l d rs∧rs[place]?=some r∧jD H gv og∧
 ∀f H',Same H H'→H f=none→H' f=some (.lst ((ZT rs place r dep og).map V.str))→Q (.ref f) H'
theorem sc51:zf ["code","labels","place","depth","guard","row","goals","found"] ["code","labels","place","depth","guard"] (zb (top 51)):=fsM
theorem z4R (D:zk K mg "words_lacking" (top 51)) (G:Glo mg) (FV:FN P w K mg base 2 "lacks_values" ["row","depth"] z0i) (FG:FN P w K mg base 1 "lacks_guard" ["row","guard"] z0j) (FB:FN P w K mg base 2 "takes_beneath" ["row","depth","guard"] Jp)
  (FM:FN P w K mg base 3 "moves" ["code","labels","place","depth","guard"] (z0h K)):FN P w K mg base 4 "words_lacking" ["code","labels","place","depth","guard"] (z2h K):=by
 refine FN.o D sc51 fun f cdv A outer s H vs Q E hr h=>?_
 obtain ⟨l,d,place,dep,gv,og,rs,r,rfl,hC,hrp,hg,q⟩:=h
 obtain ⟨⟨as,hS,hR⟩,hc,kvs,hd,hL⟩:=id hC
 obtain ⟨ra,hra,har⟩:=hR.get' hrp
 have hro:=hc.ok r (kG hrp)
 have hr2:=hr.mono (show 2≤3 by decide)
 have hr1:=hr.mono (show 1≤3 by decide)
 refine ⟨_,z7 (zw (i:=5) sc51.nd rfl (Or.inl rfl) (zD zG (pv 0) (pv 2) (fun _ _=>rfl)))
  (z7 (Q2 (N:=["goal","deeper","more"]) (nt:=3) (ix:=[]) (cl:=[]) (i:=6) rfl sc51.nd rfl (Or.inl rfl) (ji.plain (by trivial) (by trivial) rfl (by trivial) rfl)
   (Zo (zm FM hr rfl (z0 (pv 0) (z0 (pv 1) (z0 (pv 2) (z0 (pv 3) (z0 (pv 4) z8)))))))
   (fun _ _ _ _=>Q5 (K:=K) (n:=3) rfl rfl (zn (zp (i:=0) nd3 rfl (Or.inl rfl)) (zn (zp (i:=1) nd3 rfl (Or.inl rfl)) (zn (zp (i:=2) nd3 rfl (Or.inl rfl)) qf))))
   (fun _ _ _ _=>Q1) (fun _ _ _ _=>pv 0))
  (z7 (zw (i:=7) sc51.nd rfl (Or.inl rfl) (z31 (Z0 zx (zm FV hr2 rfl (z0 (pv 5) (z0 (pv 3) z8))) (Z0 zx (zm FG hr1 rfl (z0 (pv 5) (z0 (pv 4) z8)))
    (Z0 zx (zm FB hr2 rfl (z0 (pv 5) (z0 (pv 3) (z0 (pv 4) z8)))) (Z0 zx (qg qX (zq zu rfl G.len zK (z0 (pv 0) z8)) (pv 6) rfl) z2T)))) rfl rfl nofun (by decide)))
  (ze (zi (z12 (N:=["word","is_lacking"]) (nt:=2) (ix:=[]) (cl:=[]) rfl (ji.plain (by trivial) (by trivial) rfl (by trivial) rfl) (pv 7)
   (fun _ _ _ _=>Q5 (K:=K) (n:=2) rfl rfl (zn (zp (i:=0) nd2 rfl (Or.inl rfl)) (zn (zp (i:=1) nd2 rfl (Or.inl rfl)) qf)))
   (fun _ _ _ _=>z2R (qy (pv 1))) (fun _ _ _ _=>pv 0)))))),?_⟩
 refine ⟨_,rfl,_,rfl,l,_,_,_,rfl,rfl,hS,zj hra,?_⟩
 refine ⟨_,rfl,_,rfl,_,rfl,_,rfl,_,rfl,l,d,place,dep,gv,og,rs,r,rfl,hC,hrp,hg,fun ml ts H1 s1 hn1 hm1 hM1=>?_⟩
 generalize hms:qF rs place r dep og=ms at hM1
 refine ⟨ml,rfl,⟨_,SqL.of hm1⟩,fun gl hgl=>Zx (K:=K) (a:=ml) (xs:=ts.map V.ref) (fun i ys σ H2=>(∃a b c,σ=[a,b,c])∧ys=(ms.take i).map (·.1)∧Same H1 H2∧H2 gl=some (.lst ys))
  ⟨⟨none,none,none,rfl⟩,rfl,zg hgl _,z6⟩ (fun i ys σ H2 _ ⟨_,_,s2,_⟩=>s2.seq (SqL.of hm1)) ?_ ?_⟩
 ·rintro i x ys σ H2 hi ⟨⟨a,b,c,rfl⟩,rfl,s2,hp2⟩
  obtain ⟨t,m,rfl,hm,ht⟩:=(hM1.same fun a xs e=>s2 _ _ e).get hi
  have hil:i < ts.length:=by have:=(kf.mp hi).1;simpa using this
  have hml:ts.length=ms.length:=Paired.length hM1
  refine ⟨t,_,rfl,SqT.of ht,rfl,_,_,rfl,_,_,rfl,_,_,rfl,rfl,?_⟩
  refine ZW ⟨_,rfl,hp2,?_,_,?_,rfl,?_,⟨_,_,_,rfl⟩,?_,?_,z6⟩
  ·rw [kj,List.length_take]
   have h1:ms.length≤3:=by
    rw [←hms]
    unfold qF mv1 mv2 mv3
    repeat' split
    all_goals simp
   exact ql (by lia)
  ·rw [kj];lia
  ·rw [kj];lia
  ·rw [ju hm,kJ];rfl
  ·exact My.Same.upd s2 hgl _
 ·rintro ys σ H2 ⟨_,rfl,s2,hp2⟩
  have hml:ts.length=ms.length:=Paired.length hM1
  rw [kj,hml,List.take_length] at hp2
  have s02:=s1.trans s2
  intro fd hfd
  have hgl0:H gl=none:=s1.free hgl
  have hfd0:H fd=none:=s02.free hfd
  have s3:=zg hfd (.dK [])
  refine ⟨_,rfl,_,rfl,ra,r,dep,rfl,s3 _ _ (s02 _ _ har),hro,fun H4 s4=>?_⟩
  have s24:=s3.trans s4
  refine ⟨_,rfl,_,rfl,ra,r,gv,og,rfl,s24 _ _ (s02 _ _ har),(hg.same s02).same s24,?_⟩
  refine ⟨_,rfl,_,rfl,_,rfl,ra,r,dep,gv,og,rfl,s24 _ _ (s02 _ _ har),hro,(hg.same s02).same s24,fun H5 s5=>?_⟩
  have s25:=s24.trans s5
  refine ⟨_,rfl,l,_,rfl,.inl (s25.seq (s02.seq hS)),_,rfl,gl,_,rfl,.inl (SqL.of (s25 _ _ hp2)),rfl,by rw [←hms];exact z1G _ _ _ _ _,?_⟩
  refine ⟨s5 _ _ (s4 _ _ z6),kvs4 (ZU rs place r dep og),?_,(by show 4≤15;decide),?_⟩
  ·unfold ZU kvs4
   rw [hms,kj,hR.len]
   rfl
  ·rw [show ZB [] (kvs4 (ZU rs place r dep og))=kvs4 (ZU rs place r dep og) from z8e _ _ _ _]
   generalize hwb:ZU rs place r dep og=wb
   have hwl:wb.length=4:=by rw [←hwb];rfl
   have sH5:Same H H5:=s02.trans s25
   refine ⟨_,rfl,fd,kvs4 wb,rfl,z6,fun o l2 hl2=>?_⟩
   have nlf:l2≠fd:=fun z=>by rw [z,z6] at hl2;cases hl2
   have hl20:H l2=none:=sH5.free (by rw [zd nlf] at hl2;exact hl2)
   refine QO (fun i ys σ H2=>(∃a b,σ=[a,b])∧ys=((wb.take i).filter (·.2)).map (fun p=>V.str p.1)∧Same H H2∧H2 l2=some (.lst ys)∧H2 fd=some (.frz o (.dK (kvs4 wb)))) ⟨⟨none,none,rfl⟩,rfl,?_,z6,?_⟩ (fun i ys σ H2 h=>h.2.2.2.2) ?_ ?_
   ·intro b o e
    rw [zd (zc e hl20),zd (zc e hfd0),zd (zc e hfd0)]
    exact sH5 _ _ e
   ·rw [zd nlf.symm];exact z6
   ·rintro i p k v ys σ H2 hi ⟨⟨a,b,rfl⟩,rfl,s2',hp2',hf2⟩ hp
    have hil:i < 4:=by have:=(kf.mp hi).1;unfold kvs4 at this;rw [kj,hwl] at this;exact this
    have hkl:(kvs4 wb).length=4:=by unfold kvs4;rw [kj,hwl]
    obtain ⟨pw,hpw,ek⟩:∃pw:Str × Bool,wb[i]?=some pw∧(k,v)=(Sum.inr pw.1,V.bl pw.2):=by
     unfold kvs4 at hi
     rw [List.getElem?_map] at hi
     cases e:wb[i]? with
     | none=>rw [e] at hi;cases hi
     | some pw=>rw [e] at hi;exact ⟨pw,rfl,(kB hi).symm⟩
    cases ek
    have npl:l2≠p:=zc hp2' hp
    have npf:fd≠p:=zc hf2 hp
    have sp:Same H (upd H2 p (.tup [kV (Sum.inr pw.1),V.bl pw.2])):=fun b o e=>by rw [zd (zc (s2' _ _ e) hp)];exact s2' _ _ e
    refine ⟨p,_,rfl,SqT.of z6,rfl,_,_,rfl,_,_,rfl,rfl,_,rfl,pw.2,rfl,?_⟩
    have efil:(wb.take (i+1)).filter (·.2)=(wb.take i).filter (·.2)++(if pw.2=true then [pw] else []):=by
     rw [ju hpw,List.filter_append]
     congr 1
     cases hh:pw.2 <;> simp [hh]
    refine ite2 (fun c=>?_) (fun c=>?_)
    ·rw [kA c] at efil
     refine ⟨_,rfl,by rw [zd npl];exact hp2',?_,_,by lia,rfl,by lia,⟨_,_,rfl⟩,?_,?_,z6,?_⟩
     ·rw [kj]
      have h1:=List.length_filter_le (fun p:Str × Bool=>p.2) (wb.take i)
      rw [List.length_take] at h1
      exact ql (by lia)
     ·rw [efil,kJ];rfl
     ·exact fun b o e=>by rw [zd (zc e hl20)];exact sp _ _ e
     ·rw [zd nlf.symm,zd npf];exact hf2
    ·rw [kz c,kU] at efil
     exact ⟨_,by lia,rfl,by lia,⟨_,_,rfl⟩,by rw [efil],sp,by rw [zd npl];exact hp2',by rw [zd npf];exact hf2⟩
   ·rintro ys σ H2 ⟨_,rfl,s2',hp2',hf2⟩
    refine q l2 _ (fun b o e=>?_) hl20 ?_
    ·rw [zd (zc e hfd0)];exact s2' _ _ e
    ·rw [zd nlf,hp2']
     unfold ZT
     rw [hwb,show (kvs4 wb).length=wb.length by unfold kvs4;rw [kj],List.take_length,List.map_map]
     rfl
end
theorem sc53:zf ["code","labels","place","state","depth","guards"] ["code","labels","place","state"] (zb (top 53)):=fsM
noncomputable def z42:Scope:=match (zH (top 53)).getD 1 (.Pass ⟨0,0,0,0⟩) with
 | .Return (some (.ListComp _ _ s _)) _=>s
 | _=>zb (top 53)
noncomputable def cl52 (L:Addr):List (Str × Addr):=[("state",L+1+1+1),("place",L+1+1),("code",L+1)]
noncomputable def nm52:List (Str × NameKind):=[(".0",.local),("goal",.local),("deeper",.local),("more",.local),("guards_behind",.globalImplicit),("code",.cell),("place",.cell),("state",.cell)]
noncomputable def N52:List Str:=["goal","deeper","more","code","place","state"]
theorem z8L (f:Addr) (cdv:Value) (L:Addr):closureFor z42 (envOfC "next_states" (zb (top 53)) L f cdv)=pure (cl52 L):=by rfl
theorem z9k (f:Addr) (cdv:Value) (L:Addr):(relabel z42 (envOfC "next_states" (zb (top 53)) L f cdv)).names=nm52:=by rfl
theorem cs52 {P:Program} {w:World} {K:ky} {mg:Str→Option Value} {base:Heap} {f:Addr} {cdv:Value} {A:Around} {outer:List Env} {s:Shared} {H:Hp} {E:XK}:
  ji (cxOf CX0 P w K mg base ["code","labels","place","state","depth","guards"] "next_states" (zb (top 53)) f cdv A outer s H E).nox N52 3 [0,2,3] z42 (cl52 s.heap.objs.size) where
 clos:=z8L f cdv s.heap.objs.size
 nocell:=by trivial
 kind:=rfl
 names:=by trivial
 sub:=fun x c e=>e
 has:=fun x h=>by
  have e:=z9k f cdv s.heap.objs.size
  have h:nm52.lookup x=some .cell∨nm52.lookup x=some .free:=by rw [←e];exact h
  have:x="code"∨x="place"∨x="state":=by
   rcases h with h | h
   ·have hm:=PySem.mem_of_lookup h
    simp only [nm52,kD,Prod.mk.injEq,kq,or_false] at hm
    rcases hm with z | z | z | z | z | z | z | z
    all_goals first | exact .inl z.1 | exact .inr (.inl z.1) | exact .inr (.inr z.1) | exact z.2.elim | cases z.2
   ·have hm:=PySem.mem_of_lookup h
    simp only [nm52,kD,Prod.mk.injEq,kq,or_false] at hm
    rcases hm with z | z | z | z | z | z | z | z
    all_goals first | exact z.2.elim | cases z.2
  rcases this with rfl | rfl | rfl
  ·exact ⟨_,rfl⟩
  ·exact ⟨_,rfl⟩
  ·exact ⟨_,rfl⟩
 len:=rfl
 free:=fun j x e=>by
  match j,e with
  | 0,e=>cases e;exact ⟨0,rfl,rfl,rfl,rfl,fun c h=>h⟩
  | 1,e=>cases e;exact ⟨2,rfl,rfl,rfl,rfl,fun c h=>h⟩
  | 2,e=>cases e;exact ⟨3,rfl,rfl,rfl,rfl,fun c h=>h⟩
  | j+3,e=>exact absurd e (by rw [List.getElem?_eq_none (by show 6≤3+(j+3);lia)];exact nofun)
abbrev GsIn (H:Hp):List Addr→List Gd→Prop:=Paired fun a p=>H a=some (.tup [.int p.1,.int p.2])
def GsAt (K:ky) (H:Hp) (g:Addr) (gs:List Gd):Prop:=∃as,SqT K H g (as.map V.ref)∧GsIn H as gs
abbrev Sta:=Int × List Gd
def StA (K:ky) (H:Hp) (a:Addr) (s:Sta):Prop:=∃g,SqT K H a [.int s.1,.ref g]∧GsAt K H g s.2
theorem GsIn.same {H H':Hp} {as:List Addr} {gs:List Gd} (h:GsIn H as gs) (s:Same H H'):GsIn H' as gs:=Paired.mapP h fun _ _ e=>s _ _ e
theorem GsAt.same {K:ky} {H H':Hp} {g:Addr} {gs:List Gd} (h:GsAt K H g gs) (s:Same H H'):GsAt K H' g gs:=let ⟨as,h1,h2⟩:=h;⟨as,qa s h1,h2.same s⟩
theorem StA.same {K:ky} {H H':Hp} {a:Addr} {st:Sta} (h:StA K H a st) (s:Same H H'):StA K H' a st:=let ⟨g,h1,h2⟩:=h;⟨g,qa s h1,h2.same s⟩
theorem GsIn.append {H:Hp} {as bs:List Addr} {gs hs:List Gd} (h:GsIn H as gs) (k:GsIn H bs hs):GsIn H (as++bs) (gs++hs):=z0Y h k
theorem GsIn.dropLast {H:Hp} {as:List Addr} {gs:List Gd} (h:GsIn H as gs):GsIn H as.dropLast gs.dropLast:=by
 induction h with
 | nil=>exact .nil
 | cons h t ih=>
  cases t with
  | nil=>exact .nil
  | cons h2 t=>exact .cons h ih
theorem GsIn.last {H:Hp} {as:List Addr} {gs:List Gd} (h:GsIn H as gs):(as=[]∧gs=[])∨∃bs a g,as=bs++[a]∧gs.getLast?=some g∧H a=some (.tup [.int g.1,.int g.2]):=by
 induction h with
 | nil=>exact .inl ⟨rfl,rfl⟩
 | @cons a g as gs h t ih=>
  rcases ih with ⟨rfl,rfl⟩ | ⟨bs,a',g',e1,e2,e3⟩
  ·exact .inr ⟨[],a,g,rfl,rfl,h⟩
  ·refine .inr ⟨a :: bs,a',g',by rw [e1];rfl,?_,e3⟩
   cases gs with
   | nil=>cases e2
   | cons x y=>rw [List.getLast?_cons_cons];exact e2
section
variable {X:Cx}
def z9o (K:ky):R2:=fun x y H Q=>∃a b xs ys,x=.ref a∧y=.ref b∧SqT K H a xs∧SqT K H b ys∧ys≠[]∧xs.length+ys.length≤sizeLine∧(xs=[]→Q (.ref b) H)∧(xs≠[]→∀p,H p=none→Q (.ref p) (upd H p (.tup (xs++ys))))
theorem z6G:OpR X (binaryOp .Add) (z9o X.K):=by
 intro pins s σ H x y v u Q I rx ry h
 obtain ⟨a,b,xs,ys,rfl,rfl,ha,hb,hy,hz,q1,q2⟩:=h
 by_cases hx:xs=[]
 ·subst hx
  cases rx
  cases ry
  obtain ⟨its,r1,ht,_⟩:=I.tuple ha
  obtain ⟨its2,r2,ht2,_⟩:=I.tuple hb
  cases r1
  obtain ⟨⟨cls,dd,data,sl⟩,ho,hc,n,hd⟩:=id ht
  obtain ⟨⟨cls2,dd2,data2,sl2⟩,ho2,hc2,n2,hd2⟩:=id ht2
  simp only at hc hd hc2 hd2
  subst hc hd hc2 hd2
  exact concat_meets ⟨_,ho,rfl⟩ ⟨_,ho2,rfl⟩ noFill_tuple_add seq_tuple_add PySem.F.slot_tuple_add PySem.F.entry_tuple_add (PySem.F.args_tuple_add_2 _ _)
   (tuple_addW0 a b _ _ n n2 dd dd2 sl sl2 (by simp)) ⟨ho,ho2,.ref b,H,I,rfl,q1 rfl⟩
 ·exact z35 pins s σ H _ _ v u Q I rx ry ⟨a,b,xs,ys,rfl,rfl,ha,hb,hx,hz,fun z=>absurd z hy,fun _=>q2 hx⟩
theorem z5w {A:Around} {s:Shared} {l b:Addr} {vs ws:List Value} (hl:s.heap.IsTuple l vs.toArray) (hb:s.heap.IsTuple b ws.toArray) (hn:vs.length=ws.length) (hu:A.units < cLine)
  (he:∀j (h1:j < vs.length) (h2:j < ws.length),SeqAt.EqAt A.in1 s vs[j] ws[j] true):SeqAt.EqAt A s (.ref l) (.ref b) true:=by
 by_cases z:l=b
 ·subst z;exact SeqAt.EqAt.same _
 ·refine SeqAt.EqAt.of_refs z ?_
  have:=SeqAt.RcAt.tuples (e:=fun _=>true) hl hb hu (fun j h1 h2=>by
   have:=he j (by simpa using h1) (by simpa using h2)
   simpa using this)
  have e:((List.range (min vs.toArray.size ws.toArray.size)).all (fun _=>true)&&vs.toArray.size == ws.toArray.size)=true:=by simp [hn]
  rw [e] at this
  exact this
theorem ZV:∀{xs:List V} {vs ws:List Value} {A:Around} {s:Shared},Vals xs vs→Vals xs ws→(∀x∈xs,jB x=true∧eqV x x=true)→∀j (h1:j < vs.length) (h2:j < ws.length),SeqAt.EqAt A s vs[j] ws[j] true
 | _,_,_,_,_,.nil,.nil,_,j,h1,_=>absurd h1 (Nat.not_lt_zero _)
 | x :: xs,_,_,A,s,.cons r t,.cons r' t',h,0,_,_=>by
  have e:=z3O (A:=A) (s:=s) r r' (h x (kP ..)).1 (h x (kP ..)).1
  rw [(h x (kP ..)).2] at e
  exact e
 | x :: xs,_,_,A,s,.cons r t,.cons r' t',h,j+1,h1,h2=>ZV t t' (fun y hy=>h y (kQ _ hy)) j (by simpa using h1) (by simpa using h2)
theorem z4K {pins:List (Addr × Obj)} {σ:L2.St} {H:Hp} {s:Shared} {A:Around} {a b:Addr} {g:Gd} (I:Inv X pins σ H s) (ha:H a=some (.tup [.int g.1,.int g.2])) (hb:H b=some (.tup [.int g.1,.int g.2])) (hu:A.units < cLine):SeqAt.EqAt A s (.ref a) (.ref b) true:=by
 obtain ⟨vs,r1,t1,_⟩:=I.tuple (SqT.of ha)
 obtain ⟨ws,r2,t2,_⟩:=I.tuple (SqT.of hb)
 exact z5w t1 t2 (by rw [←r1.length,←r2.length]) hu fun j h1 h2=>ZV r1 r2 (fun x hx=>by
  rcases kD.mp hx with rfl | hx
  ·exact ⟨rfl,by show (g.1 == g.1)=true;simp⟩
  ·rw [ko.mp hx];exact ⟨rfl,by show (g.2 == g.2)=true;simp⟩) j h1 h2
theorem JL {pins:List (Addr × Obj)} {σ:L2.St} {H:Hp} {s:Shared} {A:Around} (I:Inv X pins σ H s) (hu:A.units < cLine):∀{as bs:List Addr} {gs:List Gd} {vs ws:List Value},GsIn H as gs→GsIn H bs gs→Vals (as.map V.ref) vs→Vals (bs.map V.ref) ws→∀j (h1:j < vs.length) (h2:j < ws.length),SeqAt.EqAt A s vs[j] ws[j] true
 | _,_,_,_,_,.nil,.nil,.nil,.nil,j,h1,_=>absurd h1 (Nat.not_lt_zero _)
 | _,_,_,_,_,.cons h t,.cons h' t',.cons r rr,.cons r' rr',0,_,_=>by
  cases r
  cases r'
  exact z4K I h h' hu
 | _,_,_,_,_,.cons h t,.cons h' t',.cons r rr,.cons r' rr',j+1,h1,h2=>JL I hu t t' rr rr' j (by simpa using h1) (by simpa using h2)
theorem z9x {pins:List (Addr × Obj)} {σ:L2.St} {H:Hp} {s:Shared} {A:Around} {a b:Addr} {gs:List Gd} (I:Inv X pins σ H s) (ha:GsAt X.K H a gs) (hb:GsAt X.K H b gs) (hu:A.units+1 < cLine):SeqAt.EqAt A s (.ref a) (.ref b) true:=by
 obtain ⟨as,h1,h2⟩:=ha
 obtain ⟨bs,h3,h4⟩:=hb
 obtain ⟨vs,r1,t1,_⟩:=I.tuple h1
 obtain ⟨ws,r2,t2,_⟩:=I.tuple h3
 have e1:=Paired.length h2
 have e2:=Paired.length h4
 refine z5w t1 t2 ?_ (by lia) (JL I (by show A.units+1 < cLine;exact hu) h2 h4 r1 r2)
 rw [←r1.length,←r2.length,kj,kj,e1,e2]
def z9m (K:ky):R2:=fun x y H Q=>∃a b st,x=.ref a∧y=.ref b∧StA K H a st∧StA K H b st∧Q (.bl false) H
theorem z6E (hu:X.A.units+3 < cLine):OpR X (compareOp .NotEq) (z9m X.K):=by
 intro pins s σ H x y v u Q I rx ry h
 obtain ⟨a,b,st,rfl,rfl,⟨g,h1,h2⟩,⟨g',h3,h4⟩,q⟩:=h
 cases rx
 cases ry
 obtain ⟨vs,r1,t1,_⟩:=I.tuple h1
 obtain ⟨ws,r2,t2,_⟩:=I.tuple h3
 have e:(!((List.range (min vs.toArray.size ws.toArray.size)).all (fun _=>true)&&vs.toArray.size == ws.toArray.size))=false:=by
  have z1:=r1.length
  have z2:=r2.length
  have z:vs.length=ws.length:=z1.symm.trans z2
  simp only [kE]
  rw [z]
  simp
 refine SeqAt.RcNeAt.tuples (e:=fun _=>true) t1 t2 (by lia) (fun j j1 j2=>?_) X.prog X.w X.xe _ ⟨.bl _,H,I,rfl,by rw [e];exact q⟩
 cases r1 with
 | cons ra rb=>
  cases r2 with
  | cons rc rd=>
   cases rb with
   | cons re rf=>
    cases rd with
    | cons rg rh=>
     cases rf
     cases rh
     match j,j1,j2 with
     | 0,_,_=>
      have e:=z3O (A:=X.A.in1) (s:=s) ra rc rfl rfl
      rw [show eqV (V.int st.1) (V.int st.1)=true by show (st.1 == st.1)=true;simp] at e
      exact e
     | 1,_,_=>
      cases re
      cases rg
      exact z9x I h2 h4 (by show X.A.units+1+1 < cLine;lia)
     | j+2,j1,_=>exact absurd j1 (by simp)
end
noncomputable def qG (r:Row) (d:Int) (gs:List Gd) (more:Int):List Gd:=if more=1 then gs++[(argM r.arg,d)] else if more= -1 then gs.dropLast else gs
section
def spGb (K:ky):Sp:=fun vs H Q _=>∃ra st r d g gs more,vs=[.ref ra,.ref st,.int more]∧H ra=some (.tup (tupV r))∧SqT K H st [.int d,.ref g]∧GsAt K H g gs∧gs.length≤1000∧(more=1→∃m,r.arg=.int m)∧(more= -1→gs≠[])∧
 ∀g' H',Same H H'→GsAt K H' g' (qG r d gs more)→Q (.ref g') H'
theorem sc52:zf ["row","state","more","depth","guards"] ["row","state","more"] (zb (top 52)):=fsM
theorem z5h {α:Type} (xs:List V) (h:xs≠[]):cutV xs none (some (-1))=xs.dropLast∧¬(HT.sIx xs.length 0 none=0∧HT.sIx xs.length xs.length (some (-1))=xs.length):=by
 have hp:0 < xs.length:=List.length_pos_iff.mpr h
 have e:HT.sIx xs.length xs.length (some (-1))=xs.length - 1:=by
  show (if (-1:Int) < 0 then ((-1:Int)+(xs.length:Int)).toNat else min (-1:Int).toNat xs.length)=_
  rw [kA (by decide)]
  lia
 refine ⟨?_,fun z=>by rw [e] at z;lia⟩
 unfold cutV
 rw [e]
 show (xs.drop 0).take (xs.length - 1 - 0)=_
 rw [List.drop_zero,Nat.sub_zero,List.dropLast_eq_take]
theorem z9G (D:zk K mg "guards_behind" (top 52)):FN P w K mg base 1 "guards_behind" ["row","state","more"] (spGb K):=by
 refine FN.o D sc52 fun f cdv A outer s H vs Q E hr h=>?_
 obtain ⟨ra,st,r,d,g,gs,more,rfl,har,hst,⟨as,hga,hgs⟩,hz,h1,h2,q⟩:=h
 refine ⟨_,z7 (j6 (pv 1) (j7 rfl (zn (zp (i:=3) sc52.nd rfl (Or.inl rfl)) (zn (zp (i:=4) sc52.nd rfl (Or.inl rfl)) qf))))
  (z7 (zQ (zl qz (pv 2) zh (zo _)) (ze (zi (zN z6G (pv 4) (zI (z0 (zI (z0 (zD zU (pv 0) zh (fun _ _=>rfl)) (z0 (pv 3) z8))) z8))))) zt)
  (ze (zi (jo (zl qz (pv 2) (Zp jb zh) (zo _)) (Z1 z2z (pv 4) Q4 (Q3 (Zp jb zh))) (pv 4))))),?_⟩
 refine ⟨_,rfl,st,_,rfl,hst,rfl,_,_,rfl,_,_,rfl,rfl,?_⟩
 refine ⟨_,rfl,rfl,_,rfl,?_⟩
 have hal:as.length=gs.length:=Paired.length hgs
 unfold qG at q
 refine ite2 (fun c=>?_) (fun c=>?_)
 ·have e:more=1:=by have:=kC c;injection this
  obtain ⟨m,em⟩:=h1 e
  rw [kA e,em] at q
  refine ⟨_,rfl,_,rfl,ra,_,_,_,rfl,rfl,SqT.of har,zj (j:=1) rfl,_,rfl,by show 2≤sizeLine;decide,fun p hp=>⟨by show 1≤sizeLine;decide,fun p2 hp2=>?_⟩⟩
  have s1:=zg hp (.tup [r.arg,.int d])
  have s2:=zg hp2 (.tup [.ref p])
  have hp':(upd (upd H p (.tup [r.arg,.int d])) p2 (.tup [.ref p])) p=some (.tup [.int (argM (.int m)),.int d]):=by
   rw [←em]
   have:=s2 _ _ (z6 (H:=H) (a:=p) (o:=.tup [r.arg,.int d]))
   rw [this,em]
   rfl
  have s12:=s1.trans s2
  refine ⟨g,p2,as.map V.ref,[.ref p],rfl,rfl,qa s12 hga,SqT.of z6,nofun,by rw [kj];show as.length+1≤_;rw [sizeLine_eq];lia,fun z=>?_,fun z p3 hp3=>?_⟩
  ·have za:as=[]:=by simpa using z
   subst za
   cases hgs
   exact q p2 _ s12 ⟨[p],SqT.of z6,.cons hp' .nil⟩
  ·have s3:=zg hp3 (.tup (as.map V.ref++[.ref p]))
   exact q p3 _ (s12.trans s3) ⟨as++[p],SqT.of (by rw [kJ];exact z6),((hgs.same s12).same s3).append (.cons (s3 _ _ hp') .nil)⟩
 ·have e:¬more=1:=fun z=>c (by rw [z];rfl)
  rw [kz e] at q
  refine ⟨_,rfl,1,rfl,rfl,_,rfl,?_⟩
  refine ite2 (fun c2=>?_) (fun c2=>?_)
  ·have e2:more= -1:=by have:=kC c2;injection this
   rw [kA e2] at q
   have hne:as.map V.ref≠[]:=fun z=>h2 e2 (by
    have za:as=[]:=by simpa using z
    rw [za] at hal
    exact List.length_eq_zero_iff.mp hal.symm)
   obtain ⟨k1,k2⟩:=z5h (α:=V) _ hne
   refine ⟨_,rfl,1,rfl,-1,rfl,g,_,rfl,hga,k2,fun p hp=>?_⟩
   rw [k1]
   have s1:=zg hp (.tup (as.map V.ref).dropLast)
   refine q p _ s1 ⟨as.dropLast,SqT.of (by rw [List.map_dropLast];exact z6),(hgs.dropLast).same s1⟩
  ·have e2:¬more= -1:=fun z=>c2 (by rw [z];rfl)
   rw [kz e2] at q
   exact ⟨_,rfl,q g H (Same.refl _) ⟨as,hga,hgs⟩⟩
end
noncomputable def isT:HO→Bool
 | .tup _=>true
 | .frz _ _=>true
 | _=>false
def zY (H H':Hp):Prop:=∀b o,H b=some o→isT o=true→H' b=some o
theorem zY.trans {H H1 H2:Hp} (a:zY H H1) (b:zY H1 H2):zY H H2:=fun c o h t=>b c o (a c o h t) t
theorem zY.of {H H':Hp} (s:Same H H'):zY H H':=fun b o h _=>s b o h
theorem zY.upd {H:Hp} {l:Addr} {o u:HO} (h:H l=some u) (hu:isT u=false):zY H (upd H l o):=fun b x e t=>by
 rw [zd (fun z=>by rw [z,h] at e;cases e;rw [hu] at t;cases t)];exact e
theorem qD {K:ky} {H H':Hp} {a:Addr} {xs:List V} (s:zY H H') (h:SqT K H a xs):SqT K H' a xs:=by
 rcases h with (h | ⟨o,h⟩) | h
 ·exact .inl (.inl (s _ _ h rfl))
 ·exact .inl (.inr ⟨o,s _ _ h rfl⟩)
 ·exact .inr h
theorem GsIn.keep {H H':Hp} {as:List Addr} {gs:List Gd} (h:GsIn H as gs) (s:zY H H'):GsIn H' as gs:=Paired.mapP h fun _ _ e=>s _ _ e rfl
theorem GsAt.keep {K:ky} {H H':Hp} {g:Addr} {gs:List Gd} (h:GsAt K H g gs) (s:zY H H'):GsAt K H' g gs:=let ⟨as,h1,h2⟩:=h;⟨as,qD s h1,h2.keep s⟩
theorem StA.keep {K:ky} {H H':Hp} {a:Addr} {st:Sta} (h:StA K H a st) (s:zY H H'):StA K H' a st:=let ⟨g,h1,h2⟩:=h;⟨g,qD s h1,h2.keep s⟩
abbrev NxIn (K:ky) (H:Hp):List Addr→List (V × Sta)→Prop:=Paired fun t n=>∃a,H t=some (.tup [n.1,.ref a])∧StA K H a n.2
theorem NxIn.keep {K:ky} {H H':Hp} {ts:List Addr} {ns:List (V × Sta)} (h:NxIn K H ts ns) (s:zY H H'):NxIn K H' ts ns:=Paired.mapP h fun _ _ z=>z.elim fun a q=>⟨a,s _ _ q.1 rfl,q.2.keep s⟩
theorem NxIn.append {K:ky} {H:Hp} {as bs:List Addr} {gs hs:List (V × Sta)} (h:NxIn K H as gs) (k:NxIn K H bs hs):NxIn K H (as++bs) (gs++hs):=z0Y h k
theorem NxIn.get {K:ky} {H:Hp} {as:List Addr} {rs:List (V × Sta)} {i:Nat} {x:V} (h:NxIn K H as rs) (e:(as.map V.ref)[i]?=some x):∃t n a,x=.ref t∧rs[i]?=some n∧H t=some (.tup [n.1,.ref a])∧StA K H a n.2:=by
 obtain ⟨t,n,h1,h2,a,h3⟩:=z2S h e
 exact ⟨t,n,a,h1,h2,h3⟩
noncomputable def Qa (rs:List Row) (place:Nat) (r:Row) (st:Sta):List (V × Sta):=(qF rs place r st.1 st.2.getLast?).map fun m=>(m.1,(m.2.1,qG r st.1 st.2 m.2.2))
theorem z4L {x:Str} (h:tabI qj x=1):x="try":=by
 unfold tabI at h
 cases e:qj.lookup x with
 | none=>rw [e] at h;cases h
 | some v=>
  have hm:=PySem.mem_of_lookup e
  rw [e] at h
  simp only [qj,kD,Prod.mk.injEq,kq,or_false] at hm
  rcases hm with ⟨z,_⟩ | ⟨_,z⟩
  ·exact z
  ·rw [z] at h;cases h
theorem z4M {x:Str} (h:tabI qj x= -1):x="endtry":=by
 unfold tabI at h
 cases e:qj.lookup x with
 | none=>rw [e] at h;cases h
 | some v=>
  have hm:=PySem.mem_of_lookup e
  rw [e] at h
  simp only [qj,kD,Prod.mk.injEq,kq,or_false] at hm
  rcases hm with ⟨_,z⟩ | ⟨z,_⟩
  ·rw [z] at h;cases h
  ·exact z
theorem z1F {rs:List Row} {place:Nat} {r:Row} {d:Int} {gs:List Gd} (hok:Zi r):∀m∈qF rs place r d gs.getLast?,(m.2.2=1→∃k,r.arg=.int k)∧(m.2.2= -1→gs≠[]):=by
 intro m hm
 unfold qF at hm
 split at hm
 ·cases hm
 ·split at hm
  ·cases hm
  ·rename_i _ hG
   rcases kR.mp hm with hm | hm
   ·rcases kR.mp hm with hm | hm
    ·unfold mv1 at hm
     split at hm
     ·cases hm
     ·rw [ko.mp hm]
      refine ⟨fun h=>?_,fun h=>?_⟩
      ·have e:=z4L h
       obtain ⟨s,hs,hfit,_⟩:=hok.parts
       rw [e,show zM "try"=some ("mark":Str) by trivial] at hs
       cases hs
       obtain ⟨k,hk,_⟩:=Z5 hfit
       exact ⟨k,hk⟩
      ·have e:=z4M h
       intro z
       subst z
       exact hG (by unfold Qy;rw [e];decide)
    ·unfold mv2 at hm
     split at hm
     ·rw [ko.mp hm]
      exact ⟨fun h=>absurd (show (0:Int)=1 from h) (by decide),fun h=>absurd (show (0:Int)= -1 from h) (by decide)⟩
     ·cases hm
   ·unfold mv3 at hm
    split at hm
    ·cases e:gs.getLast? with
     | none=>rw [e] at hm;cases hm
     | some g=>
      rw [e] at hm
      rw [ko.mp hm]
      refine ⟨fun h=>absurd (show (-1:Int)=1 from h) (by decide),fun _ z=>?_⟩
      subst z
      cases e
    ·cases hm
theorem J9 {X:Cx} {K:ky} (hK:X.K=K):IxR X (rIxL K):=by subst hK;exact zG
theorem JD (rs:List Row) (place:Nat) (r:Row) (d:Int) (og:Option Gd):(qF rs place r d og).length≤3:=by
 unfold qF mv1 mv2 mv3
 repeat' split
 all_goals simp
theorem nd52:N52.Nodup:=by trivial
section
theorem GsAt.guardV {H:Hp} {g:Addr} {gs:List Gd} (h:GsAt K H g gs):∃as:List Addr,SqT K H g (as.map V.ref)∧((as=[]∧jD H .non gs.getLast?)∨∃bs a,as=bs++[a]∧jD H (.ref a) gs.getLast?):=by
 obtain ⟨as,h1,h2⟩:=h
 refine ⟨as,h1,?_⟩
 rcases h2.last with ⟨e1,e2⟩ | ⟨bs,a,g',e1,e2,e3⟩
 ·exact .inl ⟨e1,by rw [e2];rfl⟩
 ·exact .inr ⟨bs,a,e1,by rw [e2];exact ⟨a,rfl,e3⟩⟩
def z6k (K:ky):Sp:=fun vs H Q _=>∃(g:Addr) (gs:List Gd),vs=[.ref g]∧GsAt K H g gs∧∀gv,jD H gv gs.getLast?→Q gv H
theorem up2 (F:FN P w K mg base 1 "uppermost" ["guards"] (spUp K)):FN P w K mg base 1 "uppermost" ["guards"] (z6k K):=F.imp fun vs H Q E ⟨g,gs,e,h,q⟩=>by
 obtain ⟨as,h1,h2⟩:=h.guardV
 refine ⟨g,as,e,h1,?_⟩
 rcases h2 with ⟨a,b⟩ | ⟨bs,a,e1,b⟩
 ·exact .inl ⟨a,q _ b⟩
 ·exact .inr ⟨bs,a,e1,q _ b⟩
def z0S (K:ky):Sp:=fun vs H Q _=>∃l d place sa st rs r,vs=[.ref l,.ref d,.int (place:Nat),.ref sa]∧z0b K H l d rs∧rs[place]?=some r∧StA K H sa st∧st.2.length≤1000∧
 ∀f ts H',Same H H'→H f=none→H' f=some (.lst (ts.map V.ref))→NxIn K H' ts (Qa rs place r st)→Q (.ref f) H'
theorem z77 (D:zk K mg "next_states" (top 53)) (FU:FN P w K mg base 1 "uppermost" ["guards"] (z6k K)) (FM:FN P w K mg base 3 "moves" ["code","labels","place","depth","guard"] (z0h K)) (FB:FN P w K mg base 1 "guards_behind" ["row","state","more"] (spGb K)):
  FN P w K mg base 4 "next_states" ["code","labels","place","state"] (z0S K):=by
 refine FN.o D sc53 fun f cdv A outer s H vs Q E hr h=>?_
 obtain ⟨l,d,place,sa,st,rs,r,rfl,hC,hrp,⟨g,hsa,hgs⟩,hz,q⟩:=h
 have hr1:=hr.mono (show 1≤3 by decide)
 refine ⟨_,z7 (j6 (pv 3) (j7 rfl (zn (zp (i:=4) sc53.nd rfl (Or.inl rfl)) (zn (zp (i:=5) sc53.nd rfl (Or.inl rfl)) qf))))
  (ze (zi (J0 (N:=N52) (nt:=3) (ix:=[0,2,3]) (cl:=cl52 s.heap.objs.size) rfl cs52 (Zo (zm FM hr rfl (z0 (pv 0) (z0 (pv 1) (z0 (pv 2) (z0 (pv 4) (z0 (zm FU hr1 rfl (z0 (pv 5) z8)) z8)))))))
   (fun _ _ _ _=>Q5 (K:=K) (n:=3) rfl rfl (zn (zp (i:=0) nd52 rfl (Or.inl rfl)) (zn (zp (i:=1) nd52 rfl (Or.inl rfl)) (zn (zp (i:=2) nd52 rfl (Or.inl rfl)) qf))))
   (fun _ _ _ _=>Q1)
   (fun _ _ _ _=>zI (z0 (pv 0) (z0 (zI (z0 (pv 1) (z0 (zm FB hr1 rfl (z0 (zD (J9 (K:=K) rfl) (pv 3) (pv 4) (fun _ _=>rfl)) (z0 (pv 5) (z0 (pv 2) z8)))) z8))) z8)))))),?_⟩
 refine ⟨_,rfl,sa,_,rfl,hsa,rfl,_,_,rfl,_,_,rfl,rfl,?_⟩
 refine ⟨_,rfl,_,rfl,_,rfl,_,rfl,_,rfl,g,st.2,rfl,hgs,fun gv hgv=>?_⟩
 refine ⟨l,d,place,st.1,gv,_,rs,r,rfl,hC,hrp,hgv,fun ml ts H1 s1 hn1 hm1 hM1=>?_⟩
 obtain ⟨⟨as,hS,hR⟩,hc,_⟩:=id hC
 have hro:=hc.ok r (kG hrp)
 have hmm:=z1F (rs:=rs) (place:=place) (d:=st.1) (gs:=st.2) hro
 have hlen:=JD rs place r st.1 st.2.getLast?
 unfold Qa at q
 generalize hms:qF rs place r st.1 st.2.getLast?=ms at hM1 hmm hlen q
 refine ⟨ml,rfl,⟨_,SqL.of hm1⟩,fun nl hnl=>Zx (K:=K) (a:=ml) (xs:=ts.map V.ref) (fun i ys σ H2=>(∃a b c,σ=[a,b,c,some (.ref l),some (.int (place:Nat)),some (.ref sa)])∧
   ∃us:List Addr,ys=us.map V.ref∧NxIn K H2 us ((ms.take i).map fun m=>(m.1,(m.2.1,qG r st.1 st.2 m.2.2)))∧Same H1 H2∧H2 nl=some (.lst ys))
  ⟨⟨none,none,none,rfl⟩,[],rfl,.nil,zg hnl _,z6⟩ (fun i ys σ H2 _ ⟨_,_,_,_,s2,_⟩=>s2.seq (SqL.of hm1)) ?_ ?_⟩
 ·rintro i x ys σ H2 hi ⟨⟨a,b,c,rfl⟩,us,rfl,hN,s2,hp2⟩
  obtain ⟨t,m,rfl,hm,ht⟩:=(hM1.same fun a xs e=>s2 _ _ e).get hi
  have hil:i < ts.length:=by have:=(kf.mp hi).1;simpa using this
  have hml:ts.length=ms.length:=Paired.length hM1
  have hul:us.length=(ms.take i).length:=by have:=Paired.length hN;simpa using this
  have sH:=s1.trans s2
  obtain ⟨ra,hra,har⟩:=hR.get' hrp
  obtain ⟨mm1,mm2⟩:=hmm m (kG hm)
  refine ⟨t,_,rfl,SqT.of ht,rfl,_,_,rfl,_,_,rfl,_,_,rfl,rfl,?_⟩
  refine ZW ⟨_,rfl,_,rfl,_,rfl,_,rfl,l,_,_,_,rfl,rfl,sH.seq hS,zj hra,_,rfl,_,rfl,ra,sa,r,st.1,g,st.2,m.2.2,rfl,sH _ _ har,qa sH hsa,hgs.same sH,hz,mm1,mm2,fun g' H3 s3 hg'=>?_⟩
  refine ⟨by show 2≤sizeLine;decide,fun p1 hp1=>⟨by show 2≤sizeLine;decide,fun p2 hp2'=>?_⟩⟩
  have t1:=zg hp1 (.tup [.int m.2.1,.ref g'])
  have t2:=zg hp2' (.tup [m.1,.ref p1])
  have t12:=t1.trans t2
  have sE:=s3.trans t12
  have hnl5:=sE _ _ hp2
  refine ⟨hnl5,?_,_,by rw [kj];lia,rfl,by rw [kj];lia,⟨_,_,_,rfl⟩,us++[p2],by rw [kJ];rfl,?_,?_,z6⟩
  ·rw [kj,hul,List.length_take]
   exact ql (by lia)
  ·rw [ju hm,kJ]
   have kT:=zY.upd (o:=.lst (us.map V.ref++[.ref p2])) hnl5 rfl
   refine NxIn.append ((hN.keep (zY.of sE)).keep kT) (.cons ⟨p1,kT _ _ z6 rfl,StA.keep ⟨g',SqT.of (t2 _ _ z6),hg'.same t12⟩ kT⟩ .nil)
  ·exact fun b o e=>by rw [zd (zc e hnl)];exact sE _ _ (s2 _ _ e)
 ·rintro ys σ H2 ⟨_,us,rfl,hN,s2,hp2⟩
  have hml:ts.length=ms.length:=Paired.length hM1
  rw [kj,hml,List.take_length] at hN
  exact q nl us H2 (s1.trans s2) (s1.free hnl) hp2 hN
def spSw (K:ky):Sp:=fun vs H Q _=>∃l d place sa st rs r,vs=[.ref l,.ref d,.int (place:Nat),.ref sa]∧z0b K H l d rs∧rs[place]?=some r∧StA K H sa st∧
 ∀f H',Same H H'→H f=none→H' f=some (.lst ((ZT rs place r st.1 st.2.getLast?).map V.str))→Q (.ref f) H'
theorem sc54:zf ["code","labels","place","state"] ["code","labels","place","state"] (zb (top 54)):=fsM
theorem z9C (D:zk K mg "state_words" (top 54)) (FU:FN P w K mg base 1 "uppermost" ["guards"] (z6k K)) (FW:FN P w K mg base 4 "words_lacking" ["code","labels","place","depth","guard"] (z2h K)):FN P w K mg base 5 "state_words" ["code","labels","place","state"] (spSw K):=by
 refine FN.o D sc54 fun f cdv A outer s H vs Q E hr h=>?_
 obtain ⟨l,d,place,sa,st,rs,r,rfl,hC,hrp,⟨g,hsa,hgs⟩,q⟩:=h
 refine ⟨_,ze (zi (zm FW hr rfl (z0 (pv 0) (z0 (pv 1) (z0 (pv 2) (z0 (zD zU (pv 3) zh (fun _ _=>rfl)) (z0 (zm FU (hr.mono (by decide)) rfl (z0 (zD zU (pv 3) zh (fun _ _=>rfl)) z8)) z8))))))),?_⟩
 refine ⟨_,rfl,_,rfl,_,rfl,_,rfl,sa,_,_,_,rfl,rfl,hsa,zj (j:=0) rfl,_,rfl,sa,_,_,_,rfl,rfl,hsa,zj (j:=1) rfl,g,st.2,rfl,hgs,fun gv hgv=>?_⟩
 exact ⟨l,d,place,st.1,gv,_,rs,r,rfl,hC,hrp,hgv,q⟩
end
abbrev Fnd:=List (Option Sta)
noncomputable def Qs:List (V × Sta)→Fnd→List Nat→Option (Fnd × List Nat)
 | [],f,w=>some (f,w)
 | (x,s) :: r,f,w=>match x with
  | .int j=>if 0≤j then (match f[j.toNat]? with
   | some none=>Qs r (f.set j.toNat (some s)) (w++[j.toNat])
   | some (some s')=>if s'=s then Qs r f w else none
   | none=>none) else none
  | _=>none
noncomputable def bfs (rs:List Row):Nat→Fnd→List Nat→Option Fnd
 | _,f,[]=>some f
 | 0,_,_ :: _=>none
 | n+1,f,p :: w=>match rs[p]?,f[p]? with
  | some r,some (some s)=>if (ZT rs p r s.1 s.2.getLast?).isEmpty=true∧s.2.length≤1000 then (match Qs (Qa rs p r s) f w with
   | some (f',w')=>bfs rs n f' w'
   | none=>none) else none
  | _,_=>none
noncomputable def qU (rs:List Row):Option Fnd:=bfs rs 300 ((List.replicate rs.length none).set 0 (some (0,[]))) [0]
abbrev qk (K:ky) (H:Hp):List V→Fnd→Prop:=Paired fun x o=>match o with
 | none=>x=.non
 | some st=>∃a,x=.ref a∧StA K H a st
theorem qk.keep {K:ky} {H H':Hp} {xs:List V} {os:Fnd} (h:qk K H xs os) (s:zY H H'):qk K H' xs os:=Paired.mapP h fun _ o z=>by
 cases o with
 | none=>exact z
 | some st=>
  obtain ⟨a,h1,h2⟩:=z
  exact ⟨a,h1,h2.keep s⟩
theorem qk.get {K:ky} {H:Hp} {xs:List V} {os:Fnd} {j:Nat} {o:Option Sta} (h:qk K H xs os):os[j]?=some o→∃x,xs[j]?=some x∧(match o with | none=>x=.non | some st=>∃a,x=.ref a∧StA K H a st):=z7Z h
theorem qk.set {K:ky} {H:Hp} {a:Addr} {st:Sta} (hs:StA K H a st):∀{xs:List V} {os:Fnd} (j:Nat),qk K H xs os→qk K H (xs.set j (.ref a)) (os.set j (some st))
 | _,_,_,.nil=>.nil
 | _,_,0,.cons _ t=>.cons ⟨a,rfl,hs⟩ t
 | _,_,j+1,.cons h t=>.cons h (qk.set hs j t)
theorem QN (K:ky) (H:Hp):∀n:Nat,qk K H (List.replicate n V.non) (List.replicate n none)
 | 0=>.nil
 | n+1=>.cons rfl (QN K H n)
def z0L (H:Hp) (kvs:List (Key × V)) (f:Fnd) (B:Nat):Prop:=∀(p:Nat) st,f[p]?=some (some st)→∃t ns,valV kvs (Sum.inl (p:Int):Key)=some (.ref t)∧H t=some (.tup ns)∧ns≠[]∧ns.length≤B
theorem z0L.keep {H H':Hp} {kvs:List (Key × V)} {f:Fnd} {B:Nat} (h:z0L H kvs f B) (s:zY H H'):z0L H' kvs f B:=fun p st e=>let ⟨t,ns,h1,h2,h3⟩:=h p st e;⟨t,ns,h1,s _ _ h2 rfl,h3⟩
theorem z0L.mono {H:Hp} {kvs:List (Key × V)} {f:Fnd} {B B':Nat} (h:z0L H kvs f B) (hb:B≤B'):z0L H kvs f B':=fun p st e=>let ⟨t,ns,h1,h2,h3,h4⟩:=h p st e;⟨t,ns,h1,h2,h3,ku h4 hb⟩
structure Srch (K:ky) (H0 H:Hp) (d fl wd wl:Addr) (rs:List Row) (f:Fnd) (w:List Nat) (B C:Nat):Prop where
 same:Same H0 H
 labs:∃kvs,H d=some (.dK kvs)∧Zz kvs rs
 nf:H0 fl=none
 nw:H0 wd=none
 nl:H0 wl=none
 fnd:∃fvs,H fl=some (.lst fvs)∧qk K H fvs f
 wks:∃kvs,H wd=some (.dK kvs)∧z0L H kvs f B∧kvs.length≤C
 wts:H wl=some (.lst (w.map fun p=>V.int (p:Nat)))
 wlen:w.length≤C
 flen:f.length=rs.length
 nd:d≠wd
 nfw:fl≠wl
theorem Srch.same' {K:ky} {H0 H H':Hp} {d fl wd wl:Addr} {rs:List Row} {f:Fnd} {w:List Nat} {B C:Nat} (h:Srch K H0 H d fl wd wl rs f w B C) (s:Same H H'):Srch K H0 H' d fl wd wl rs f w B C:=by
 obtain ⟨a1,⟨kv,b1,b2⟩,a3,a4,a5,⟨fvs,a6,a7⟩,⟨kvs,a8,a9,a10⟩,a11,a12,a13,a14,a15⟩:=h
 have kt:=zY.of s
 exact ⟨a1.trans s,⟨kv,s _ _ b1,b2⟩,a3,a4,a5,⟨fvs,s _ _ a6,a7.keep kt⟩,⟨kvs,s _ _ a8,a9.keep kt,a10⟩,s _ _ a11,a12,a13,a14,a15⟩
theorem Srch.more {K:ky} {H0 H:Hp} {d fl wd wl:Addr} {rs:List Row} {f:Fnd} {w:List Nat} {B B' C C':Nat} (h:Srch K H0 H d fl wd wl rs f w B C) (hb:B≤B') (hc:C≤C'):Srch K H0 H d fl wd wl rs f w B' C':=by
 obtain ⟨a1,a2,a3,a4,a5,a6,⟨kvs,a8,a9,a10⟩,a11,a12,a13,a14,a15⟩:=h
 exact ⟨a1,a2,a3,a4,a5,a6,⟨kvs,a8,a9.mono hb,by lia⟩,a11,by lia,a13,a14,a15⟩
theorem Srch.code {K:ky} {H0 H:Hp} {l d fl wd wl:Addr} {as:List Addr} {rs:List Row} {f:Fnd} {w:List Nat} {B C:Nat} (h:Srch K H0 H d fl wd wl rs f w B C) (hS:SqL K H0 l (as.map V.ref)) (hR:zr H0 as rs) (hc:Code rs):z0b K H l d rs:=
 ⟨⟨as,h.same.seq hS,hR.same h.same⟩,hc,h.labs⟩
theorem Srch.pop {K:ky} {H0 H:Hp} {d fl wd wl:Addr} {rs:List Row} {f:Fnd} {p:Nat} {w:List Nat} {B C:Nat} (h:Srch K H0 H d fl wd wl rs f (p :: w) B C):Srch K H0 (upd H wl (.lst (w.map fun p=>V.int (p:Nat)))) d fl wd wl rs f w B C:=by
 obtain ⟨a1,⟨kv,b1,b2⟩,a3,a4,a5,⟨fvs,a6,a7⟩,⟨kvs,a8,a9,a10⟩,a11,a12,a13,a14,a15⟩:=h
 have kt:=zY.upd (o:=.lst (w.map fun p=>V.int (p:Nat))) a11 rfl
 exact ⟨fun b o e=>by rw [zd (zc e a5)];exact a1 _ _ e,⟨kv,by rw [zd (zA b1 a11 nofun)];exact b1,b2⟩,a3,a4,a5,⟨fvs,by rw [zd a15];exact a6,a7.keep kt⟩,
  ⟨kvs,by rw [zd (zA a8 a11 nofun)];exact a8,a9.keep kt,a10⟩,z6,by simp at a12;lia,a13,a14,a15⟩
theorem Srch.put {K:ky} {H0 H:Hp} {d fl wd wl:Addr} {rs:List Row} {f:Fnd} {w:List Nat} {B C:Nat} (h:Srch K H0 H d fl wd wl rs f w B C) {j:Nat} {a t:Addr} {st:Sta} {ns fvs:List V} {kvs:List (Key × V)} (hf:H fl=some (.lst fvs)) (hw:H wd=some (.dK kvs))
  (hs:StA K H a st) (ht:H t=some (.tup ns)) (hn:ns≠[]) (hl:ns.length≤B) (hj:f[j]?=some none):
  Srch K H0 (upd (upd (upd H fl (.lst (fvs.set j (.ref a)))) wd (.dK (putK kvs (Sum.inl (j:Int)) (.ref t)))) wl (.lst ((w.map fun p=>V.int (p:Nat))++[V.int (j:Nat)]))) d fl wd wl rs (f.set j (some st)) (w++[j]) B (C+1):=by
 obtain ⟨a1,⟨kv,b1,b2⟩,a3,a4,a5,⟨fvs',a6,a7⟩,⟨kvs',a8,a9,a10⟩,a11,a12,a13,a14,a15⟩:=h
 rw [hf] at a6
 cases a6
 rw [hw] at a8
 cases a8
 have nwf:wd≠fl:=zA hw hf nofun
 have nwl:wd≠wl:=zA hw a11 nofun
 have k1:=zY.upd (o:=.lst (fvs.set j (.ref a))) hf rfl
 have e2:(upd H fl (.lst (fvs.set j (.ref a)))) wd=some (.dK kvs):=by rw [zd nwf];exact hw
 have k2:=k1.trans (zY.upd (o:=.dK (putK kvs (Sum.inl (j:Int)) (.ref t))) e2 rfl)
 have e3:(upd (upd H fl (.lst (fvs.set j (.ref a)))) wd (.dK (putK kvs (Sum.inl (j:Int)) (.ref t)))) wl=some (.lst (w.map fun p=>V.int (p:Nat))):=by rw [zd nwl.symm,zd a15.symm];exact a11
 have k3:=k2.trans (zY.upd (o:=.lst ((w.map fun p=>V.int (p:Nat))++[V.int (j:Nat)])) e3 rfl)
 refine ⟨fun b o e=>by rw [zd (zc e a5),zd (zc e a4),zd (zc e a3)];exact a1 _ _ e,⟨kv,by rw [zd (zA b1 a11 nofun),zd a14,zd (zA b1 hf nofun)];exact b1,b2⟩,a3,a4,a5,
  ⟨_,by rw [zd a15,zd nwf.symm];exact z6,(a7.set hs j).keep k3⟩,⟨_,by rw [zd nwl];exact z6,fun p st' e=>?_,?_⟩,?_,by simp;lia,by simp [a13],a14,a15⟩
 ·rw [QS]
  by_cases z:p=j
  ·subst z
   rw [kA rfl]
   exact ⟨t,ns,rfl,k3 _ _ ht rfl,hn,hl⟩
  ·rw [kz (fun y=>z (by injection y with y;lia))]
   rw [List.getElem?_set,kz (fun y=>z y.symm)] at e
   obtain ⟨t',ns',h1,h2,h3⟩:=a9 p st' e
   exact ⟨t',ns',h1,k3 _ _ h2 rfl,h3⟩
 ·have:=qA kvs (Sum.inl (j:Int):Key) (V.ref t)
  lia
 ·rw [z6,kJ]
  rfl
section
def Zm (K:ky):Sp:=fun vs H Q _=>∃l as rs fin,vs=[.ref l]∧SqL K H l (as.map V.ref)∧zr H as rs∧Code rs∧qU rs=some fin∧
 ∀t fl fvs H',Same H H'→H t=none→H fl=none→H' t=some (.tup [.ref fl,.non])→H' fl=some (.lst fvs)→qk K H' fvs fin→Q (.ref t) H'
theorem sc55:zf ["code","labels","found","walks","waiting","place","words","goal","state","walk"] ["code"] (zb (top 55)):=fsM
theorem pop0 {xs:List V} {y:V} {ys:List V} (h:xs=y :: ys):seqIndex? 0 xs.length=some 0∧xs[0]?=some y∧xs.eraseIdx 0=ys:=by
 subst h
 refine ⟨?_,rfl,rfl⟩
 unfold seqIndex?
 simp
noncomputable def st54:Stmt:=match (zH (top 55)).getD 5 (.Pass ⟨0,0,0,0⟩) with
 | .While _ b _ _=>b.getD 3 (.Pass ⟨0,0,0,0⟩)
 | s=>s
noncomputable abbrev N54:List Str:=["code","labels","found","walks","waiting","place","words","goal","state","walk"]
def z7U (K:ky) (H:Hp) (l:Addr) (rs:List Row):TS:=fun D σ H3=>∃(d fl wd wl:Addr) (p:Nat) (r:Row) (st:Sta) (n:Nat) (v6 v7 v8 v9:Option V) (fo:Fnd) (wa:List Nat) (foE:Fnd) (waE:List Nat),
 σ=[some (.ref l),some (.ref d),some (.ref fl),some (.ref wd),some (.ref wl),some (.int (p:Nat)),v6,v7,v8,v9]∧n≤299∧rs[p]?=some r∧fo[p]?=some (some st)∧st.2.length≤1000∧Qs (Qa rs p r st) fo wa=some (foE,waE)∧
 Srch K H H3 d fl wd wl rs fo wa (300 - n) (3 * (300 - n))∧∀σ' H',(∃v5 v6 v7 v8 v9,σ'=[some (.ref l),some (.ref d),some (.ref fl),some (.ref wd),some (.ref wl),v5,v6,v7,v8,v9])→Srch K H H' d fl wd wl rs foE waE (301 - n) (3 * (301 - n))→D.nx σ' H'
theorem z3R {α:Type} {l:List α} {i:Nat} {x:α} (h:l[i]?=some x):l.drop i=x :: l.drop (i+1):=by
 obtain ⟨hi,e⟩:=kf.mp h
 rw [←e]
 exact List.drop_eq_getElem_cons hi
theorem z9z {f:Addr} {cdv:Value} {A:Around} {outer:List Env} {s:Shared} {H:Hp} {E:XK} {l:Addr} {as:List Addr} {rs:List Row} (hr:Room 7 (A.deeper (envOfC "searched" (zb (top 55)) s.heap.objs.size f cdv)))
  (hS:SqL K H l (as.map V.ref)) (hR:zr H as rs) (hc:Code rs) (FN':FN P w K mg base 4 "next_states" ["code","labels","place","state"] (z0S K)):
  PS (cxOf CX0 P w K mg base N54 "searched" (zb (top 55)) f cdv A outer s H E).nox st54 (z7U K H l rs):=by
 have hu:=Qg hr
 have hu3:(A.deeper (envOfC "searched" (zb (top 55)) s.heap.objs.size f cdv)).units+3 < cLine:=by have:=hr.un;lia
 have hr4:=hr.mono (show 4≤7 by decide)
 refine PS.imp (jw PassesOwn.never rfl (Zo (zm FN' hr4 rfl (z0 (pv 0) (z0 (pv 1) (z0 (pv 5) (z0 (zD zG (pv 2) (pv 5) (fun _ _=>rfl)) z8))))))
    (j7 rfl (zn (zp (i:=7) sc55.nd rfl (Or.inl rfl)) (zn (zp (i:=8) sc55.nd rfl (Or.inl rfl)) qf)))
    (z7 (zw (i:=9) sc55.nd rfl (Or.inl rfl) (zN z35 (Zq hu (pv 3) (pv 5) (fun _ _=>rfl)) (zI (z0 (pv 7) z8))))
    (ze (zQ (zl Q7 (zD zG (pv 2) (pv 7) (fun _ _=>rfl)) zR (zo _))
     (z7 (j6 (pv 8) (ZA (pv 2) (pv 7) j5)) (z7 (z0p hu (pv 3) (pv 7) (pv 9) rfl) (ze (zy (je (pv 4) (z0 (pv 7) z8))))))
     (ze (zQ (zl (z6E hu3) (zD zG (pv 2) (pv 7) (fun _ _=>rfl)) (pv 8) (zo _)) qu zt)))))) ?_
 rintro D σ H3 ⟨d,fl,wd,wl,p,r,st,n,v6,v7,v8,v9,fo,wa,foE,waE,rfl,hn,hrp,hfp,hz,hrel,S,k⟩
 obtain ⟨fvs,hfl2,hF⟩:=S.fnd
 obtain ⟨x,hx,hx2⟩:=hF.get hfp
 obtain ⟨sa,rfl,hsa⟩:=hx2
 refine ⟨_,rfl,_,rfl,_,rfl,_,rfl,_,rfl,fl,_,_,_,rfl,rfl,SqL.of hfl2,zj hx,l,d,p,sa,st,rs,r,rfl,S.code hS hR hc,hrp,hsa,hz,fun nl ts H4 s4 hn4 hnl4 hN4=>?_⟩
 have hnlen:(Qa rs p r st).length≤3:=by unfold Qa;rw [kj];exact JD ..
 generalize Qa rs p r st=ns at hrel hN4 hnlen
 have hts:ts.length=ns.length:=Paired.length hN4
 have S4:=S.same' s4
 obtain ⟨kvs,hwd,hW,hkl⟩:=S4.wks
 obtain ⟨tp,np,ht1,ht2,ht3,ht4⟩:=hW p st hfp
 refine ⟨nl,rfl,⟨_,SqL.of hnl4⟩,Jc (K:=K) (a:=nl) (xs:=ts.map V.ref) (fun i σ H'=>∃v7 v8 v9 fo' wa',σ=[some (.ref l),some (.ref d),some (.ref fl),some (.ref wd),some (.ref wl),some (.int (p:Nat)),v6,v7,v8,v9]∧i≤3∧
   Qs (ns.drop i) fo' wa'=some (foE,waE)∧fo'[p]?=some (some st)∧Srch K H H' d fl wd wl rs fo' wa' (301 - n) (3 * (300 - n)+i)∧(∃kvs,H' wd=some (.dK kvs)∧valV kvs (Sum.inl (p:Int):Key)=some (.ref tp))∧H' tp=some (.tup np)∧
   H' nl=some (.lst (ts.map V.ref))∧NxIn K H' ts ns)
  ⟨v7,v8,v9,fo,wa,rfl,by decide,hrel,hfp,S4.more (by lia) (by lia),⟨kvs,hwd,ht1⟩,ht2,hnl4,hN4⟩ (fun i σ H' _ ⟨_,_,_,_,_,_,_,_,_,_,_,_,h,_⟩=>SqL.of h) ?_ ?_⟩
 ·rintro i x σ H' hi ⟨v7,v8,v9,fo',wa',rfl,hi3,hrel',hfp',S',⟨kvs',hwd',hv'⟩,htp',hnl',hN'⟩
  obtain ⟨t,nx,a,rfl,hnx,ht,hst⟩:=hN'.get hi
  have hil:i < ts.length:=by have:=(kf.mp hi).1;simpa using this
  rw [z3R hnx] at hrel'
  obtain ⟨goal,st'⟩:=nx
  refine ⟨t,_,rfl,SqT.of ht,rfl,_,_,rfl,_,_,rfl,rfl,?_⟩
  have hgd:DGet H' wd (.int (p:Nat)) (some (.ref tp)):=by rw [←hv'];exact DGet.k (k:=Sum.inl (p:Int)) hwd'
  refine ⟨_,rfl,_,rfl,wd,_,rfl,hgd,_,rfl,by show 1≤sizeLine;decide,fun p2 hp2=>?_⟩
  have t2:=zg hp2 (.tup [goal])
  refine ⟨tp,p2,np,[goal],rfl,rfl,SqT.of (t2 _ _ htp'),SqT.of z6,ht3,by rw [sizeLine_eq];show np.length+1≤_;lia,nofun,fun _ p3 hp3=>?_⟩
  have t3:=zg hp3 (.tup (np++[goal]))
  have t23:=t2.trans t3
  have S2:=S'.same' t23
  have hwd2:=t23 _ _ hwd'
  have hnl2:=t23 _ _ hnl'
  have hN2:=hN'.keep (zY.of t23)
  have hst2:=hst.same t23
  have htp2:=t23 _ _ htp'
  have hp33:(upd (upd H' p2 (.tup [goal])) p3 (.tup (np++[goal]))) p3=some (.tup (np++[goal])):=z6
  generalize upd (upd H' p2 (.tup [goal])) p3 (.tup (np++[goal]))=H5 at *
  obtain ⟨fv,hfl5,hF5⟩:=S2.fnd
  unfold Qs at hrel'
  cases goal with
  | int j=>
   dsimp only at hrel'
   by_cases hj0:0≤j
   case neg=>rw [kz hj0] at hrel';cases hrel'
   rw [kA hj0] at hrel'
   obtain ⟨jn,rfl⟩:=kY hj0
   rw [kZ] at hrel'
   cases hfj:fo'[jn]? with
   | none=>rw [hfj] at hrel';cases hrel'
   | some o=>
    obtain ⟨y,hy,hy2⟩:=hF5.get hfj
    rw [hfj] at hrel'
    refine ⟨_,rfl,_,rfl,fl,_,_,_,rfl,rfl,SqL.of hfl5,zj hy,rfl,_,rfl,?_⟩
    cases o with
    | none=>
     dsimp only at hrel' hy2
     subst hy2
     have npj:p≠jn:=fun z=>by rw [z,hfj] at hfp';cases hfp'
     have jlt:jn < fv.length:=(kf.mp hy).1
     have Sp:=S2.put (t:=p3) hfl5 hwd2 hst2 hp33 (by simp) (by rw [kl];show np.length+1≤_;lia) hfj
     have nwf:wd≠fl:=zA hwd2 hfl5 nofun
     have nlf:nl≠fl:=fun z=>by rw [z] at hn4;rw [S.fnd.choose_spec.1] at hn4;cases hn4
     have nlw:nl≠wl:=fun z=>by rw [z] at hn4;rw [S.wts] at hn4;cases hn4
     refine iteT ⟨_,rfl,_,rfl,_,rfl,fl,fv,_,jn,rfl,rfl,hfl5,?_,?_⟩
     ·unfold ixN
      rw [kA hj0,kA (by lia),kZ]
     refine ⟨_,rfl,_,rfl,_,rfl,wd,_,rfl,DPut.k (k:=Sum.inl (jn:Int)) (by rw [zd nwf];exact hwd2) ?_,?_⟩
     ·obtain ⟨kk,e1,_,e3⟩:=S2.wks
      rw [hwd2] at e1
      cases e1
      rw [sizeLine_eq];lia
     have hwl5:(upd (upd H5 fl (.lst (fv.set jn (.ref a)))) wd (.dK (putK kvs' (Sum.inl (jn:Int)) (.ref p3)))) wl=some (.lst (wa'.map fun p=>V.int (p:Nat))):=by
      rw [zd (zA S2.wts hwd2 nofun),zd S2.nfw.symm];exact S2.wts
     refine ⟨_,rfl,.inl ⟨rfl,_,SqL.of hwl5⟩,_,rfl,wl,_,_,rfl,rfl,hwl5,?_,?_⟩
     ·rw [kj]
      have:=S2.wlen
      rw [sizeLine_eq];lia
     have kt:zY H5 (upd (upd (upd H5 fl (.lst (fv.set jn (.ref a)))) wd (.dK (putK kvs' (Sum.inl (jn:Int)) (.ref p3)))) wl (.lst ((wa'.map fun p=>V.int (p:Nat))++[V.int (jn:Nat)]))):=
      ((zY.upd hfl5 rfl).trans (zY.upd (u:=.dK kvs') (by rw [zd nwf];exact hwd2) rfl)).trans (zY.upd hwl5 rfl)
     refine ⟨_,_,_,_,_,rfl,by lia,hrel',by rw [List.getElem?_set,kz npj.symm];exact hfp',Sp.more (ke _) (by lia),⟨_,by rw [zd (zA hwd2 S2.wts nofun)];exact z6,?_⟩,kt _ _ htp2 rfl,?_,hN2.keep kt⟩
     ·rw [QS,kz (fun z=>npj (by injection z with z;lia))];exact hv'
     ·rw [zd nlw,zd (zA hnl2 hwd2 nofun),zd nlf];exact hnl2
    | some s'=>
     dsimp only at hrel' hy2
     obtain ⟨a',rfl,hst'⟩:=hy2
     by_cases hs:s'=st'
     case neg=>rw [kz hs] at hrel';cases hrel'
     rw [kA hs] at hrel'
     subst hs
     refine iteF ⟨_,rfl,_,rfl,fl,_,_,_,rfl,rfl,SqL.of hfl5,zj hy,_,rfl,a',a,s',rfl,rfl,hst',hst2,false,rfl,iteF ?_⟩
     exact ⟨_,_,_,_,_,rfl,by lia,hrel',hfp',S2.more (ke _) (by lia),⟨kvs',hwd2,hv'⟩,htp2,hnl2,hN2⟩
  | _=>cases hrel'
 ·rintro σ H' ⟨v7,v8,v9,fo',wa',rfl,hi3,hrel',hfp',S',_⟩
  have hdr:ns.drop (ts.map V.ref).length=[]:=by rw [kj,hts];simp
  rw [hdr] at hrel'
  unfold Qs at hrel'
  cases hrel'
  exact k _ H' ⟨_,_,_,_,_,rfl⟩ (S'.more (ke _) (by rw [kj] at *;lia))
end
section
noncomputable def z91:Stmt:=(zH (top 55)).getD 5 (.Pass ⟨0,0,0,0⟩)
def z9h (K:ky) (H:Hp) (l:Addr) (rs:List Row) (fin:Fnd):TS:=fun D σ H3=>∃(d fl wd wl:Addr) (f0:Fnd),σ=[some (.ref l),some (.ref d),some (.ref fl),some (.ref wd),some (.ref wl),none,none,none,none,none]∧bfs rs 300 f0 [0]=some fin∧
 Srch K H H3 d fl wd wl rs f0 [0] (301 - 300) (3 * (301 - 300))∧∀v1 v3 v4 v5 v6 v7 v8 v9 fvs H',Same H H'→H fl=none→H' fl=some (.lst fvs)→qk K H' fvs fin→D.nx [some (.ref l),v1,some (.ref fl),v3,v4,v5,v6,v7,v8,v9] H'
theorem z6a {f:Addr} {cdv:Value} {A:Around} {outer:List Env} {s:Shared} {H:Hp} {E:XK} {l:Addr} {as:List Addr} {rs:List Row} {fin:Fnd} (hr:Room 7 (A.deeper (envOfC "searched" (zb (top 55)) s.heap.objs.size f cdv)))
  (hS:SqL K H l (as.map V.ref)) (hR:zr H as rs) (hc:Code rs) (FS:FN P w K mg base 5 "state_words" ["code","labels","place","state"] (spSw K)) (FN':FN P w K mg base 4 "next_states" ["code","labels","place","state"] (z0S K)):
  PS (cxOf CX0 P w K mg base N54 "searched" (zb (top 55)) f cdv A outer s H E).nox z91 (z9h K H l rs fin):=by
 have hr5:=hr.mono (show 5≤7 by decide)
 refine PS.imp (ZO PassesOwn.never (jZ (pv 4) (fun _=>rfl))
   (z7 (zw (i:=5) sc55.nd rfl (Or.inl rfl) (z0r PySem.F.plainAttrs_list PySem.F.slot_list_pop PySem.F.type_list_pop z4D (pv 4) (z0 zh z8)))
   (z7 (zw (i:=6) sc55.nd rfl (Or.inl rfl) (zm FS hr5 rfl (z0 (pv 0) (z0 (pv 1) (z0 (pv 5) (z0 (zD zG (pv 2) (pv 5) (fun _ _=>rfl)) z8))))))
   (z7 (zQ (jZ (pv 6) (fun _=>rfl)) qu zt)
   (ze (z9z hr hS hR hc FN')))))) ?_
 rintro D σ H3 ⟨d,fl,wd,wl,f0,rfl,hfin,jk,q⟩
 refine ⟨fun m σ H2=>∃fo wa v5 v6 v7 v8 v9,σ=[some (.ref l),some (.ref d),some (.ref fl),some (.ref wd),some (.ref wl),v5,v6,v7,v8,v9]∧m≤300∧bfs rs m fo wa=some fin∧Srch K H H2 d fl wd wl rs fo wa (301 - m) (3 * (301 - m)),⟨300,f0,[0],none,none,none,none,none,rfl,ke _,hfin,jk⟩,?_⟩
 clear jk
 rintro m σ H2 ⟨fo,wa,v5,v6,v7,v8,v9,rfl,hm,hb,S⟩
 refine ⟨_,rfl,!wa.isEmpty,.inl ⟨_,SqL.of S.wts,by rw [List.isEmpty_map]⟩,?_⟩
 cases wa with
 | nil=>
  have hb:some fo=some fin:=by unfold bfs at hb;exact hb
  cases hb
  obtain ⟨fvs,hfl2,hF⟩:=S.fnd
  exact iteF (q _ _ _ _ _ _ _ _ fvs H2 S.same S.nf hfl2 hF)
 | cons p wa=>
  cases m with
  | zero=>unfold bfs at hb;cases hb
  | succ n=>
   unfold bfs at hb
   cases hrp:rs[p]? with
   | none=>rw [hrp] at hb;cases hb
   | some r=>
    cases hfp:fo[p]? with
    | none=>rw [hrp,hfp] at hb;cases hb
    | some o=>
     cases o with
     | none=>rw [hrp,hfp] at hb;cases hb
     | some st=>
      rw [hrp,hfp] at hb
      dsimp only at hb
      by_cases hw:(ZT rs p r st.1 st.2.getLast?).isEmpty=true∧st.2.length≤1000
      case neg=>rw [kz hw] at hb;cases hb
      rw [kA hw] at hb
      obtain ⟨hw,hz⟩:=hw
      cases hrel:Qs (Qa rs p r st) fo wa with
      | none=>rw [hrel] at hb;cases hb
      | some fw=>
       obtain ⟨foE,waE⟩:=fw
       rw [hrel] at hb
       dsimp only at hb
       refine iteT ⟨fun σ' H'=>∃v5 v6 v7 v8 v9,σ'=[some (.ref l),some (.ref d),some (.ref fl),some (.ref wd),some (.ref wl),v5,v6,v7,v8,v9]∧Srch K H H' d fl wd wl rs foE waE (301 - n) (3 * (301 - n)),fun σ' H' ⟨v5,v6,v7,v8,v9,e,S'⟩=>⟨n,ya _,foE,waE,v5,v6,v7,v8,v9,e,by lia,hb,S'⟩,?_⟩
       obtain ⟨k1,k2,k3⟩:=pop0 (xs:=(p :: wa).map fun p=>V.int (p:Nat)) rfl
       refine ⟨_,rfl,.inl ⟨rfl,_,SqL.of S.wts⟩,wl,_,0,0,_,rfl,rfl,S.wts,by decide,by decide,k1,k2,?_⟩
       rw [k3]
       have S1:=S.pop
       generalize upd H2 wl (.lst (wa.map fun p=>V.int (p:Nat)))=H3 at S1
       obtain ⟨fvs,hfl2,hF⟩:=S1.fnd
       obtain ⟨x,hx,hx2⟩:=hF.get hfp
       obtain ⟨sa,rfl,hsa⟩:=hx2
       refine ⟨_,rfl,_,rfl,_,rfl,_,rfl,_,rfl,fl,_,_,_,rfl,rfl,SqL.of hfl2,zj hx,l,d,p,sa,st,rs,r,rfl,S1.code hS hR hc,hrp,hsa,fun wf H4 s4 hn4 hwf=>?_⟩
       refine ⟨_,rfl,false,.inl ⟨_,SqL.of hwf,by rw [List.isEmpty_map,hw];rfl⟩,iteF ?_⟩
       exact ⟨d,fl,wd,wl,p,r,st,n,_,_,_,_,fo,wa,foE,waE,rfl,by lia,hrp,hfp,hz,hrel,(S1.same' s4).more (by lia) (by lia),fun σ' H' ⟨v5,v6,v7,v8,v9,e⟩ S'=>⟨v5,v6,v7,v8,v9,e,S'⟩⟩
theorem z0E (D:zk K mg "searched" (top 55)) (G:Glo mg) (T:z5u w K mg) (FL:FN P w K mg base 7 "label_places" ["rows"] (z0T K)) (FS:FN P w K mg base 5 "state_words" ["code","labels","place","state"] (spSw K)) (FN':FN P w K mg base 4 "next_states" ["code","labels","place","state"] (z0S K)):
  FN P w K mg base 8 "searched" ["code"] (Zm K):=by
 refine FN.o D sc55 fun f cdv A outer s H vs Q E hr h=>?_
 obtain ⟨l,as,rs,fin,rfl,hS,hR,hc,hfin,q⟩:=h
 have hu:=Qg hr
 have hu3:(A.deeper (envOfC "searched" (zb (top 55)) s.heap.objs.size f cdv)).units+3 < cLine:=by have:=hr.un;lia
 obtain ⟨fa,fg,mfa,tfa,tfg⟩:=T.first
 have hr5:=hr.mono (show 5≤7 by decide)
 have hr4:=hr.mono (show 4≤7 by decide)
 refine ⟨_,z7 (zw (i:=1) sc55.nd rfl (Or.inl rfl) (zm FL hr rfl (z0 (pv 0) z8)))
  (z7 (zw (i:=2) sc55.nd rfl (Or.inl rfl) (zN z87 (qv (z0 zR z8)) (zq zu rfl G.len zK (z0 (pv 0) z8))))
  (z7 (j6 (zO rfl mfa (v:=.ref fa) rfl) (ZA (pv 2) zh j5))
  (z7 (zw (i:=3) sc55.nd rfl (Or.inl rfl) (z31 (Z0 zh (zI (z0 zh z8)) z2T) rfl rfl nofun (by decide)))
  (z7 (zw (i:=4) sc55.nd rfl (Or.inl rfl) (qv (z0 zh z8)))
  (z7 (z6a (fin:=fin) hr hS hR hc FS FN')
  (ze (zi (zI (z0 (pv 2) (z0 zR z8)))))))))),?_⟩
 have hlen:=hc.hi
 have hlo:=hc.lo
 refine ⟨_,rfl,l,as,rs,rfl,hS,hR,hc.ok,by lia,fun d kvs0 H1 hd0 s1 hd1 hL=>?_⟩
 have hll:as.length=rs.length:=hR.len
 refine ⟨by show 1≤sizeLine;decide,fun p0 hp0=>?_⟩
 have t0:=zg hp0 (.lst [V.non])
 refine ⟨_,rfl,l,_,rfl,.inl (t0.seq (s1.seq hS)),p0,_,[V.non],rfl,rfl,z6,?_,?_,?_,fun fl hfl=>?_⟩
 ·rw [kj];lia
 ·rw [kj];lia
 ·rw [kj]
  show 1 * ((as.length:Nat):Int).toNat≤sizeLine
  rw [sizeLine_eq,kZ];lia
 have efl:(List.replicate (((as.map V.ref).length:Nat):Int).toNat [V.non]).flatten=List.replicate rs.length V.non:=by
  rw [kZ,kj,hll]
  generalize rs.length=n
  induction n with
  | zero=>rfl
  | succ n ih=>rw [List.replicate_succ,List.flatten_cons,ih];rfl
 rw [efl]
 have sA:Same H (upd H1 p0 (.lst [V.non])):=s1.trans t0
 have hfl0:H fl=none:=sA.free hfl
 have nfd:d≠fl:=zc (t0 _ _ hd1) hfl
 refine ⟨_,rfl,fl,_,0,0,rfl,rfl,z6,?_,?_⟩
 ·unfold ixN
  rw [kA (by decide),kA (by rw [List.length_replicate];lia)]
  rfl
 rw [z6e]
 have f0:qk K (upd (upd H1 p0 (.lst [V.non])) fl (.lst ((List.replicate rs.length V.non).set 0 (.ref fa)))) ((List.replicate rs.length V.non).set 0 (.ref fa)) ((List.replicate rs.length none).set 0 (some (0,[]))):=
  qk.set (st:=(0,[])) ⟨fg,tfa.sq _,[],tfg.sq _,.nil⟩ 0 (QN _ _ _)
 generalize hfv:(List.replicate rs.length V.non).set 0 (V.ref fa)=fvs0 at f0
 intro wd hwd
 have sB:Same H (upd (upd H1 p0 (.lst [V.non])) fl (.lst fvs0)):=fun b o e=>by rw [zd (zc e hfl0)];exact sA _ _ e
 generalize hHB:upd (upd H1 p0 (.lst [V.non])) fl (.lst fvs0)=HB at *
 have hflB:HB fl=some (.lst fvs0):=by rw [←hHB];exact z6
 have hdB:HB d=some (.dK kvs0):=by rw [←hHB,zd nfd];exact t0 _ _ hd1
 have hwd0:H wd=none:=sB.free hwd
 have s3:=zg hwd (.dK [])
 refine ⟨by show 1≤sizeLine;decide,fun p1 hp1=>?_⟩
 have s4:=zg hp1 (.tup [V.int 0])
 refine ⟨s4 _ _ z6,[(Sum.inl 0,.ref p1)],rfl,(by show 1≤15;decide),?_⟩
 have em:ZB [] [((Sum.inl 0:Key),V.ref p1)]=[(Sum.inl 0,V.ref p1)]:=rfl
 rw [em]
 refine ⟨by show 1≤sizeLine;decide,fun wl hwl=>?_⟩
 have npw:p1≠wd:=(zc (H:=upd HB wd (.dK [])) z6 hp1).symm
 have hwl':wl≠wd:=fun z=>by rw [z,z6] at hwl;cases hwl
 have hwl2:(upd (upd HB wd (.dK [])) p1 (.tup [V.int 0])) wl=none:=by rw [zd hwl'] at hwl;exact hwl
 have sC:Same HB (upd (upd HB wd (.dK [])) p1 (.tup [V.int 0])):=s3.trans s4
 have hwlB:HB wl=none:=sC.free hwl2
 have sD:Same HB (upd (upd (upd (upd HB wd (.dK [])) p1 (.tup [V.int 0])) wd (.dK [(Sum.inl 0,V.ref p1)])) wl (.lst [V.int 0])):=fun b o e=>by
  rw [zd (zc e hwlB),zd (zc e hwd)];exact sC _ _ e
 generalize hHD:upd (upd (upd (upd HB wd (.dK [])) p1 (.tup [V.int 0])) wd (.dK [(Sum.inl 0,V.ref p1)])) wl (.lst [V.int 0])=HD at *
 have hp1D:HD p1=some (.tup [V.int 0]):=by
  rw [←hHD,zd (fun z=>by rw [←z,z6] at hwl2;cases hwl2),zd npw];exact z6
 have hwdD:HD wd=some (.dK [(Sum.inl 0,V.ref p1)]):=by rw [←hHD,zd hwl'.symm];exact z6
 have hwlD:HD wl=some (.lst [V.int 0]):=by rw [←hHD];exact z6
 have jk:Srch K H HD d fl wd wl rs ((List.replicate rs.length none).set 0 (some (0,[]))) [0] (301 - 300) (3 * (301 - 300)):=by
  refine ⟨sB.trans sD,⟨kvs0,sD _ _ hdB,hL⟩,hfl0,hwd0,sB.free hwlB,⟨fvs0,sD _ _ hflB,f0.keep (zY.of sD)⟩,⟨_,hwdD,fun p st e=>?_,(by show 1≤3;decide)⟩,hwlD,(by show 1≤3;decide),by simp,zc hdB hwd,zc hflB hwlB⟩
  have hp:p=0:=by
   rw [List.getElem?_set] at e
   by_cases z:0=p
   ·exact z.symm
   ·rw [kz z,List.getElem?_replicate] at e
    split at e <;> cases e
  subst hp
  exact ⟨p1,_,rfl,hp1D,nofun,(by show 1≤1;decide)⟩
 refine ⟨d,fl,wd,wl,_,rfl,hfin,jk,fun v1 v3 v4 v5 v6 v7 v8 v9 fvs H' s' _ h1 h2=>?_⟩
 refine ⟨_,rfl,by show 2≤sizeLine;decide,fun t ht=>?_⟩
 have st:=zg ht (.tup [V.ref fl,.non])
 exact q t fl fvs _ (s'.trans st) (s'.free ht) hfl0 z6 (st _ _ h1) (h2.keep (zY.of st))
end
section
def QU (K:ky):Sp:=fun vs H Q _=>∃l as rs fin,vs=[.ref l]∧H l=some (.lst (as.map V.ref))∧zr H as rs∧Code rs∧qU rs=some fin∧
 ∀fl fvs H',Same H H'→H fl=none→H' fl=some (.lst fvs)→qk K H' fvs fin→Q (.ref fl) H'
theorem sc56:zf ["code","found","reason"] ["code"] (zb (top 56)):=fsM
theorem z3G (D:zk K mg "states" (top 56)) (FC:FN P w K mg base 9 "check_code" ["thing"] z0k) (FS:FN P w K mg base 8 "searched" ["code"] (Zm K)):FN P w K mg base 10 "states" ["code"] (QU K):=by
 refine FN.o D sc56 fun f cdv A outer s H vs Q E hr h=>?_
 obtain ⟨l,as,rs,fin,rfl,hl,hR,hc,hfin,q⟩:=h
 refine ⟨_,z7 (zy (zm FC hr rfl (z0 (pv 0) z8)))
  (z7 (j6 (zm FS (hr.mono (by decide)) rfl (z0 (pv 0) z8)) (j7 rfl (zn (zp (i:=1) sc56.nd rfl (Or.inl rfl)) (zn (zp (i:=2) sc56.nd rfl (Or.inl rfl)) qf))))
  (z7 (zQ (zl jL (pv 2) zR (zo _)) qu zt) (ze (zi (pv 1))))),?_⟩
 refine ⟨_,rfl,l,as,rs,rfl,hl,hR,hc,fun H1 s1=>?_⟩
 refine ⟨_,rfl,l,as,rs,fin,rfl,SqL.of (s1 _ _ hl),hR.same s1,hc,hfin,fun t fl fvs H2 s2 ht hfl h1 h2 h3=>?_⟩
 refine ⟨t,_,rfl,SqT.of h1,rfl,_,_,rfl,_,_,rfl,rfl,?_⟩
 exact ⟨_,rfl,rfl,_,rfl,iteF ⟨_,rfl,q fl fvs H2 (s1.trans s2) (s1.free hfl) h2 h3⟩⟩
noncomputable def z0P:V→Bool
 | .non=>false
 | .bl b=>b
 | .int i=>i != 0
 | .str z=>(z.length:Int) != 0
 | _=>true
def z0R:Sp:=fun vs H Q _=>∃x,vs=[x]∧Scal x∧Q (.bl (z0P x)) H
theorem sc68:zf ["value"] ["value"] (zb (top 68)):=fsM
theorem z6V (D:zk K mg "is_true" (top 68)) (G:Glo mg):FN P w K mg base 1 "is_true" ["value"] z0R:=by
 refine FN.o D sc68 fun f cdv A outer s H vs Q E hr h=>?_
 obtain ⟨x,rfl,hx,q⟩:=h
 refine ⟨_,ze (zi (qW Jg rfl G.bool jC (z0 (pv 0) z8))),?_⟩
 refine ⟨x,rfl,x,rfl,?_⟩
 cases hx with
 | non=>exact .inl ⟨rfl,q⟩
 | bl b=>exact .inr (.inl ⟨b,rfl,q⟩)
 | int i=>exact .inr (.inr (.inl ⟨i,rfl,q⟩))
 | str z hz=>exact .inr (.inr (.inr ⟨z,rfl,hz,q⟩))
theorem z04:bootBuiltins "dict"=some (.type "dict"):=by trivial
theorem z5s:bootBuiltins "all"=some (.builtin "all"):=by trivial
def Qr (kvs:List (Key × V)):Prop:=kvs.length≤8∧∀p∈kvs,∃nm:Str,p.1=Sum.inr nm∧nm.length≤sizeLine∧JC (.str nm)=true∧Scal p.2∧QC p.2 1000000000000000000=true
def z2o:Sp:=fun vs H Q _=>∃d kvs,vs=[.ref d]∧H d=some (.dK kvs)∧Qr kvs∧∀H',Same H H'→Q (.bl true) H'
theorem sc86:zf ["thing"] ["thing"] (zb (top 86)):=fsM
theorem ndnv:(["name","value"]:List Str).Nodup:=by trivial
theorem z4Z (D:zk K mg "is_names" (top 86)) (G:Glo mg) (F1:FN P w K mg base 2 "is_name" ["thing"] (sp1 JC)) (F2:FN P w K mg base 3 "is_value_within" ["thing","most"] z0f):FN P w K mg base 4 "is_names" ["thing"] z2o:=by
 refine FN.o D sc86 fun f cdv A outer s H vs Q E hr h=>?_
 obtain ⟨d,kvs,rfl,hd,⟨hn,hall⟩,q⟩:=h
 obtain ⟨u1,m1,r1⟩:=G.made
 refine ⟨_,z7 (zQ (PW.pt (Qt (jc (qy (zq zX rfl G.isinstance zE (z0 (pv 0) (z0 (Qu "dict" rfl G.dict z04) z8)))))
   (jY (zl z34 (zq z47 rfl G.len zK (z0 (pv 0) z8)) (qC rfl G.names) (zo _))))) qu zt)
  (ze (zi (zq (Jh rfl) rfl G.all z5s (z0 (z12 (N:=["name","value"]) (nt:=2) (ix:=[]) (cl:=[]) rfl (ji.plain (by trivial) (by trivial) rfl (by trivial) rfl) (pv 0)
   (fun _ _ _ _=>Q5 (K:=K) (n:=2) rfl rfl (zn (zp (i:=0) ndnv rfl (Or.inl rfl)) (zn (zp (i:=1) ndnv rfl (Or.inl rfl)) qf)))
   (fun _ _ _ _=>Q1)
   (fun _ _ _ _=>qN (zm F1 (hr.mono (by decide)) rfl (z0 (pv 0) z8)) (qV (zm F2 hr rfl (z0 (pv 1) (z0 (zO rfl m1 r1) z8)))))) z8)))),?_⟩
 refine ⟨_,rfl,_,"dict",_,true,rfl,.dK hd,rfl,_,rfl,iteF ?_⟩
 refine ⟨_,rfl,d,kvs,rfl,hd,_,_,rfl,rfl,_,rfl,?_⟩
 rw [kh (show ¬((8:Int) < (kvs.length:Int)) by lia)]
 refine iteF ⟨_,rfl,d,kvs,rfl,hd,fun o l hl=>?_⟩
 refine QO (Q:=fun x H1=>∃(p:Addr) (bs:List Bool),[x]=[V.ref p]∧SqL K H1 p (bs.map V.bl)∧Q (V.bl (bs.all id)) H1) (fun i ys σ H2=>(∃a b,σ=[a,b])∧ys=List.replicate i (V.bl true)∧H2 l=some (.lst ys)∧H2 d=some (.frz o (.dK kvs))∧∀b o,H b=some o→b≠d→H2 b=some o) ⟨⟨none,none,rfl⟩,rfl,z6,?_,?_⟩ (fun i ys σ H2 h=>h.2.2.2.1) ?_ ?_
 ·rw [zd (zc hd hl)];exact z6
 ·intro b o e hb
  rw [zd (zc e hl),zd hb];exact e
 ·rintro i p k v ys σ H2 hi ⟨⟨a,b,rfl⟩,rfl,hl2,hd2,kp⟩ hp
  obtain ⟨nm,ek,hz,h1,h2,h3⟩:=hall (k,v) (kG hi)
  have ek:k=Sum.inr nm:=ek
  subst ek
  have hil:=(kf.mp hi).1
  have npl:l≠p:=zc hl2 hp
  have npd:d≠p:=zc hd2 hp
  refine ⟨p,_,rfl,SqT.of z6,rfl,_,_,rfl,_,_,rfl,rfl,?_⟩
  refine ZW ⟨_,rfl,_,rfl,.str nm hz,_,rfl,?_⟩
  rw [show JC (kV (Sum.inr nm))=true from h1]
  refine iteT ⟨_,rfl,_,_,rfl,h2,?_⟩
  rw [h3]
  refine ⟨by rw [zd npl];exact hl2,by rw [List.length_replicate];exact ql (by lia),_,by lia,rfl,by lia,⟨_,_,rfl⟩,by rw [List.replicate_succ'],z6,?_,fun b o e hb=>?_⟩
  ·rw [zd (zc hd hl),zd npd];exact hd2
  ·rw [zd (zc e hl),zd (zc (kp _ _ e hb) hp)];exact kp _ _ e hb
 ·rintro ys σ H2 ⟨_,rfl,hl2,hd2,kp⟩
  have nld:l≠d:=(zc hd hl).symm
  refine ⟨l,List.replicate kvs.length true,rfl,SqL.of ?_,?_⟩
  ·rw [zd nld,hl2,List.map_replicate]
  ·have e:(List.replicate kvs.length true).all id=true:=by
    rw [List.all_eq_true]
    intro b hb
    rw [List.eq_of_mem_replicate hb]
    rfl
   rw [e]
   refine q _ fun b o e=>?_
   by_cases z:b=d
   ·subst z
    rw [hd] at e
    cases e
    exact z6
   ·rw [zd z];exact kp _ _ e z
def z5J:Sp:=fun vs H Q _=>∃d kvs,vs=[.ref d]∧H d=some (.dK kvs)∧Qr kvs∧∀H',Same H H'→Q .non H'
theorem sc87:zf ["thing"] ["thing"] (zb (top 87)):=fsM
theorem z7l (D:zk K mg "check_names" (top 87)) (F1:FN P w K mg base 4 "is_names" ["thing"] z2o):FN P w K mg base 5 "check_names" ["thing"] z5J:=by
 refine FN.o D sc87 fun f cdv A outer s H vs Q E hr h=>?_
 obtain ⟨d,kvs,rfl,hd,hn,q⟩:=h
 refine ⟨_,ze (zQ (jc (qy (zm F1 hr rfl (z0 (pv 0) z8)))) qu zt),?_⟩
 exact ⟨_,rfl,d,kvs,rfl,hd,hn,fun H' s'=>⟨_,rfl,iteF (q H' s')⟩⟩
def z5I:Sp:=fun vs H Q _=>∃n:Nat,vs=[.int n]∧n≤100000∧Q .non H
theorem sc88:zf ["thing"] ["thing"] (zb (top 88)):=fsM
theorem z7k (D:zk K mg "check_steps" (top 88)) (G:Glo mg) (F1:FN P w K mg base 2 "is_number_within" ["thing","low","high"] jl):FN P w K mg base 3 "check_steps" ["thing"] z5I:=by
 refine FN.o D sc88 fun f cdv A outer s H vs Q E hr h=>?_
 obtain ⟨n,rfl,hn,q⟩:=h
 refine ⟨_,ze (zQ (jc (qy (zm F1 hr rfl (z0 (pv 0) (z0 zh (z0 (qC rfl G.steps) z8)))))) qu zt),?_⟩
 have e:zZ (.int (n:Nat)) 0 100000=true:=by
  show (decide ((0:Int)≤(n:Nat))&&decide (((n:Nat):Int)≤100000))=true
  rw [ki (by lia),ki (by lia)]
  rfl
 refine ⟨_,rfl,.int (n:Nat),0,100000,rfl,.int _,?_⟩
 rw [e]
 exact ⟨_,rfl,iteF q⟩
end
structure ja (K:ky) (C:Addr):Prop where
 cl:Cls K C
 held:qQ K C "held"
 known:qQ K C "known"
 said:qQ K C "said"
structure Mst where
 st:List V
 kn:List (Key × V)
 sd:List V
 deriving DecidableEq
structure qx (H:Hp) (C ho hl kd sl dx:Addr) (m:Mst):Prop where
 ins:H ho=some (.ins C dx [("held",.ref hl),("known",.ref kd),("said",.ref sl)])
 held:H hl=some (.lst m.st)
 known:H kd=some (.dK m.kn)
 said:H sl=some (.lst m.sd)
 ne:hl≠sl
inductive Res where
 | next | go | fault (k:Str) | value (v:V)
 deriving DecidableEq
noncomputable def resV:Res→List V
 | .next=>[.str "next",.non]
 | .go=>[.str "go",.non]
 | .fault k=>[.str "fault",.str k]
 | .value v=>[.str "value",v]
structure Cons (K:ky) (mg:Str→Option Value):Prop where
 next:∃a,mg "NEXT"=some (.ref a)∧KTup K a [.str "next",.non]
 go:∃a,mg "GO"=some (.ref a)∧KTup K a [.str "go",.non]
 unset:∃a,mg "UNSET"=some (.ref a)∧KTup K a [.str "fault",.str "Unset"]
 on:∃a,mg "ON"=some (.ref a)∧KTup K a [.str "on"]
abbrev Deed:=Str→V→Mst→Option (Res × Mst)
def zT (H H':Hp) (a b c:Addr):Prop:=∀x o,H x=some o→x≠a→x≠b→x≠c→H' x=some o
def zJ (K:ky) (C:Addr) (g:Deed):Sp:=fun vs H Q _=>∃ho hl kd sl dx op arg m res m',vs=[.ref ho,.str op,arg]∧qx H C ho hl kd sl dx m∧g op arg m=some (res,m')∧
 ∀t H',SqT K H' t (resV res)→qx H' C ho hl kd sl dx m'→zT H H' hl kd sl→Q (.ref t) H'
theorem z7v {K:ky} {C:Addr} {g:Deed} (vs:List V) (H:Hp) (Q:VK) (E:XK) (h:zJ K C g vs H Q E):vs.length=3:=by
 obtain ⟨_,_,_,_,_,_,_,_,_,_,rfl,_⟩:=h
 rfl
theorem qx.setHeld {H:Hp} {C ho hl kd sl dx:Addr} {m:Mst} (h:qx H C ho hl kd sl dx m) (xs:List V):qx (upd H hl (.lst xs)) C ho hl kd sl dx { m with st:=xs }:=
 ⟨by rw [zd (zA h.ins h.held nofun)];exact h.ins,z6,by rw [zd (zA h.known h.held nofun)];exact h.known,by rw [zd h.ne.symm];exact h.said,h.ne⟩
theorem qx.setSaid {H:Hp} {C ho hl kd sl dx:Addr} {m:Mst} (h:qx H C ho hl kd sl dx m) (xs:List V):qx (upd H sl (.lst xs)) C ho hl kd sl dx { m with sd:=xs }:=
 ⟨by rw [zd (zA h.ins h.said nofun)];exact h.ins,by rw [zd h.ne];exact h.held,by rw [zd (zA h.known h.said nofun)];exact h.known,z6,h.ne⟩
theorem qx.setKnown {H:Hp} {C ho hl kd sl dx:Addr} {m:Mst} (h:qx H C ho hl kd sl dx m) (kn:List (Key × V)):qx (upd H kd (.dK kn)) C ho hl kd sl dx { m with kn:=kn }:=
 ⟨by rw [zd (zA h.ins h.known nofun)];exact h.ins,by rw [zd (zA h.held h.known nofun)];exact h.held,z6,by rw [zd (zA h.said h.known nofun)];exact h.said,h.ne⟩
theorem qx.same {H H':Hp} {C ho hl kd sl dx:Addr} {m:Mst} (h:qx H C ho hl kd sl dx m) (s:Same H H'):qx H' C ho hl kd sl dx m:=⟨s _ _ h.ins,s _ _ h.held,s _ _ h.known,s _ _ h.said,h.ne⟩
theorem zT.refl {H:Hp} {a b c:Addr}:zT H H a b c:=fun _ _ e _ _ _=>e
theorem zT.trans {H H1 H2:Hp} {a b c:Addr} (x:zT H H1 a b c) (y:zT H1 H2 a b c):zT H H2 a b c:=fun z o e h1 h2 h3=>y z o (x z o e h1 h2 h3) h1 h2 h3
theorem zT.of {H H':Hp} {a b c:Addr} (s:Same H H'):zT H H' a b c:=fun z o e _ _ _=>s z o e
theorem zT.a {H:Hp} {a b c:Addr} {o:HO}:zT H (upd H a o) a b c:=fun z o e h1 _ _=>by rw [zd h1];exact e
theorem zT.b {H:Hp} {a b c:Addr} {o:HO}:zT H (upd H b o) a b c:=fun z o e _ h1 _=>by rw [zd h1];exact e
theorem zT.c {H:Hp} {a b c:Addr} {o:HO}:zT H (upd H c o) a b c:=fun z o e _ _ h1=>by rw [zd h1];exact e
theorem z6K {xs:List V} {v:V} (h:xs.getLast?=some v):xs=xs.dropLast++[v]:=by
 have hne:xs≠[]:=fun z=>by rw [z] at h;cases h
 rw [List.getLast?_eq_getLast hne] at h
 cases h
 exact (List.dropLast_concat_getLast hne).symm
theorem qL {xs:List V} {v:V} (h:xs.getLast?=some v):xs[xs.length - 1]?=some v:=by
 rw [←List.getLast?_eq_getElem?];exact h
noncomputable def jK:V→Bool
 | .str z=>decide (z.length≤1000)
 | .non=>true
 | .bl _=>true
 | .int _=>true
 | _=>false
theorem jJ {x:V} (h:jK x=true):Scal x:=by
 cases x with
 | str z=>exact .str z (z0V (kC h))
 | non=>exact .non
 | bl b=>exact .bl b
 | int i=>exact .int i
 | _=>cases h
noncomputable def qp (n:Nat):Bool:=decide (n≤1000)
noncomputable def z0C:Deed:=fun _ arg m=>if qp m.st.length=true then some (.next,{ m with st:=m.st++[arg] }) else none
noncomputable def z3C:Deed:=fun _ arg m=>match arg with
 | .str nm=>(match valV m.kn (Sum.inr nm:Key) with
  | none=>some (.fault "Unset",m)
  | some v=>if qp m.st.length=true then some (.next,{ m with st:=m.st++[v] }) else none)
 | _=>none
noncomputable def JP:Deed:=fun _ arg m=>match arg with
 | .str nm=>if qp m.st.length=true then some (.next,{ m with st:=m.st++[(valV m.kn (Sum.inr nm:Key)).getD .non] }) else none
 | _=>none
noncomputable def JN:Deed:=fun _ arg m=>match arg with
 | .str nm=>(match m.st.getLast? with
  | some v=>if qp m.kn.length=true then some (.next,{ m with st:=m.st.dropLast,kn:=putK m.kn (Sum.inr nm) v }) else none
  | none=>none)
 | _=>none
noncomputable def JQ:Deed:=fun _ arg m=>match arg with
 | .str nm=>(match valV m.kn (Sum.inr nm:Key) with
  | none=>some (.fault "Unset",m)
  | some _=>some (.next,{ m with kn:=z22 m.kn (Sum.inr nm) }))
 | _=>none
noncomputable def z0A:Deed:=fun _ _ m=>match m.st.getLast? with
 | some v=>if qp m.sd.length=true then some (.next,{ m with st:=m.st.dropLast,sd:=m.sd++[v] }) else none
 | none=>none
noncomputable def gIf:Deed:=fun op _ m=>match m.st.getLast? with
 | some v=>if jK v=true then some (if z0P v=decide (op="iftrue") then .go else .next,{ m with st:=m.st.dropLast }) else none
 | none=>none
noncomputable def gOr:Deed:=fun op _ m=>match m.st.getLast? with
 | some v=>if jK v=true then some (if z0P v=decide (op="ortrue") then (.go,m) else (.next,{ m with st:=m.st.dropLast })) else none
 | none=>none
noncomputable def jM:Deed:=fun _ _ m=>match m.st.getLast? with
 | some v=>some (.value v,{ m with st:=m.st.dropLast })
 | none=>none
section
variable {C:Addr}
theorem qR {n:Nat} (h:qp n=true):n < sizeLine:=ql (kC h)
theorem sc90:zf ["hold","op","arg"] ["hold","op","arg"] (zb (top 90)):=fsM
theorem z73 (D:zk K mg "do_push" (top 90)) (c:ja K C) (cs:Cons K mg):FN P w K mg base 1 "do_push" ["hold","op","arg"] (zJ K C z0C):=by
 refine FN.o D sc90 fun f cdv A outer s H vs Q E hr h=>?_
 obtain ⟨ho,hl,kd,sl,dx,op,arg,m,res,m',rfl,hA,hg,q⟩:=h
 obtain ⟨na,mn,tn⟩:=cs.next
 refine ⟨_,z7 (zy (je (zB (pv 0) rfl) (z0 (pv 2) z8))) (ze (zi (zO rfl mn (v:=.ref na) rfl))),?_⟩
 unfold z0C at hg
 by_cases hz:qp m.st.length=true
 case neg=>rw [kz hz] at hg;cases hg
 rw [kA hz] at hg
 cases hg
 refine ⟨_,rfl,ho,C,dx,_,.ref hl,rfl,hA.ins,c.cl,c.held,rfl,.inl ⟨rfl,_,SqL.of hA.held⟩,_,rfl,hl,_,_,rfl,rfl,hA.held,qR hz,?_⟩
 exact q na _ (tn.sq _) (hA.setHeld _) zT.a
theorem sc91:zf ["hold","op","arg"] ["hold","op","arg"] (zb (top 91)):=fsM
theorem z7a (D:zk K mg "do_load" (top 91)) (c:ja K C) (cs:Cons K mg):FN P w K mg base 1 "do_load" ["hold","op","arg"] (zJ K C z3C):=by
 refine FN.o D sc91 fun f cdv A outer s H vs Q E hr h=>?_
 obtain ⟨ho,hl,kd,sl,dx,op,arg,m,res,m',rfl,hA,hg,q⟩:=h
 have hu:=Qg hr
 obtain ⟨na,mn,tn⟩:=cs.next
 obtain ⟨ua,mu,tu⟩:=cs.unset
 refine ⟨_,z7 (zQ (z5P (Jy hu (pv 2) (zB (pv 0) rfl))) (ze (zi (zO rfl mu (v:=.ref ua) rfl))) zt)
  (z7 (zy (je (zB (pv 0) rfl) (z0 (Zq hu (zB (pv 0) rfl) (pv 2) (fun _ _=>rfl)) z8))) (ze (zi (zO rfl mn (v:=.ref na) rfl)))),?_⟩
 cases arg with
 | str nm=>
  unfold z3C at hg
  dsimp only at hg
  have hgt:DGet H kd (.str nm) (valV m.kn (Sum.inr nm:Key)):=DGet.k (k:=Sum.inr nm) hA.known
  refine ⟨_,rfl,_,rfl,ho,C,dx,_,.ref kd,rfl,hA.ins,c.cl,c.known,rfl,kd,_,rfl,hgt,_,rfl,?_⟩
  cases hv:valV m.kn (Sum.inr nm:Key) with
  | none=>
   rw [hv] at hg
   cases hg
   exact iteT (q ua H (tu.sq _) hA zT.refl)
  | some v=>
   rw [hv] at hg hgt
   dsimp only at hg
   by_cases hz:qp m.st.length=true
   case neg=>rw [kz hz] at hg;cases hg
   rw [kA hz] at hg
   cases hg
   refine iteF ⟨_,rfl,ho,C,dx,_,.ref hl,rfl,hA.ins,c.cl,c.held,rfl,.inl ⟨rfl,_,SqL.of hA.held⟩,_,rfl,ho,C,dx,_,.ref kd,rfl,hA.ins,c.cl,c.known,rfl,_,rfl,kd,v,rfl,hgt,hl,_,_,rfl,rfl,hA.held,qR hz,?_⟩
   exact q na _ (tn.sq _) (hA.setHeld _) zT.a
 | _=>cases hg
theorem sc92:zf ["hold","op","arg"] ["hold","op","arg"] (zb (top 92)):=fsM
theorem z4Y (D:zk K mg "do_quick" (top 92)) (c:ja K C) (cs:Cons K mg):FN P w K mg base 1 "do_quick" ["hold","op","arg"] (zJ K C JP):=by
 refine FN.o D sc92 fun f cdv A outer s H vs Q E hr h=>?_
 obtain ⟨ho,hl,kd,sl,dx,op,arg,m,res,m',rfl,hA,hg,q⟩:=h
 have hu:=Qg hr
 obtain ⟨na,mn,tn⟩:=cs.next
 refine ⟨_,z7 (zy (je (zB (pv 0) rfl) (z0 (z11 hu (zB (pv 0) rfl) (pv 2) ⟨rfl,rfl,rfl,rfl⟩) z8))) (ze (zi (zO rfl mn (v:=.ref na) rfl))),?_⟩
 cases arg with
 | str nm=>
  unfold JP at hg
  dsimp only at hg
  have hgt:DGet H kd (.str nm) (valV m.kn (Sum.inr nm:Key)):=DGet.k (k:=Sum.inr nm) hA.known
  by_cases hz:qp m.st.length=true
  case neg=>rw [kz hz] at hg;cases hg
  rw [kA hz] at hg
  cases hg
  refine ⟨_,rfl,ho,C,dx,_,.ref hl,rfl,hA.ins,c.cl,c.held,rfl,.inl ⟨rfl,_,SqL.of hA.held⟩,_,rfl,ho,C,dx,_,.ref kd,rfl,hA.ins,c.cl,c.known,rfl,kd,rfl,.inl ⟨_,.inl hA.known⟩,_,rfl,_,hgt,hl,_,_,rfl,rfl,hA.held,qR hz,?_⟩
  exact q na _ (tn.sq _) (hA.setHeld _) zT.a
 | _=>cases hg
theorem sc93:zf ["hold","op","arg"] ["hold","op","arg"] (zb (top 93)):=fsM
theorem z4V (D:zk K mg "do_store" (top 93)) (c:ja K C) (cs:Cons K mg):FN P w K mg base 1 "do_store" ["hold","op","arg"] (zJ K C JN):=by
 refine FN.o D sc93 fun f cdv A outer s H vs Q E hr h=>?_
 obtain ⟨ho,hl,kd,sl,dx,op,arg,m,res,m',rfl,hA,hg,q⟩:=h
 have hu:=Qg hr
 obtain ⟨na,mn,tn⟩:=cs.next
 refine ⟨_,z7 (z0p hu (zB (pv 0) rfl) (pv 2) (jq (zB (pv 0) rfl)) rfl) (ze (zi (zO rfl mn (v:=.ref na) rfl))),?_⟩
 cases arg with
 | str nm=>
  unfold JN at hg
  dsimp only at hg
  cases hv:m.st.getLast? with
  | none=>rw [hv] at hg;cases hg
  | some v=>
   rw [hv] at hg
   dsimp only at hg
   by_cases hz:qp m.kn.length=true
   case neg=>rw [kz hz] at hg;cases hg
   rw [kA hz] at hg
   cases hg
   have h1:=hA.setHeld m.st.dropLast
   refine ⟨_,rfl,ho,C,dx,_,.ref hl,rfl,hA.ins,c.cl,c.held,rfl,.inl ⟨rfl,_,SqL.of hA.held⟩,hl,_,_,rfl,rfl,hA.held,qL hv,?_⟩
   refine ⟨_,rfl,ho,C,dx,_,.ref kd,rfl,h1.ins,c.cl,c.known,rfl,_,rfl,kd,_,rfl,DPut.k (k:=Sum.inr nm) h1.known (qR hz),?_⟩
   exact q na _ (tn.sq _) (h1.setKnown _) (zT.a.trans zT.b)
 | _=>cases hg
theorem sc94:zf ["hold","op","arg"] ["hold","op","arg"] (zb (top 94)):=fsM
theorem z5a (D:zk K mg "do_clear" (top 94)) (c:ja K C) (cs:Cons K mg):FN P w K mg base 1 "do_clear" ["hold","op","arg"] (zJ K C JQ):=by
 refine FN.o D sc94 fun f cdv A outer s H vs Q E hr h=>?_
 obtain ⟨ho,hl,kd,sl,dx,op,arg,m,res,m',rfl,hA,hg,q⟩:=h
 have hu:=Qg hr
 obtain ⟨na,mn,tn⟩:=cs.next
 obtain ⟨ua,mu,tu⟩:=cs.unset
 refine ⟨_,z7 (zQ (z5P (Jy hu (pv 2) (zB (pv 0) rfl))) (ze (zi (zO rfl mu (v:=.ref ua) rfl))) zt)
  (z7 (zy (z4x (zB (pv 0) rfl) (pv 2) ⟨rfl,rfl,rfl,rfl⟩)) (ze (zi (zO rfl mn (v:=.ref na) rfl)))),?_⟩
 cases arg with
 | str nm=>
  unfold JQ at hg
  dsimp only at hg
  have hgt:DGet H kd (.str nm) (valV m.kn (Sum.inr nm:Key)):=DGet.k (k:=Sum.inr nm) hA.known
  refine ⟨_,rfl,_,rfl,ho,C,dx,_,.ref kd,rfl,hA.ins,c.cl,c.known,rfl,kd,_,rfl,hgt,_,rfl,?_⟩
  cases hv:valV m.kn (Sum.inr nm:Key) with
  | none=>
   rw [hv] at hg
   cases hg
   exact iteT (q ua H (tu.sq _) hA zT.refl)
  | some v=>
   rw [hv] at hg
   cases hg
   refine iteF ⟨_,rfl,ho,C,dx,_,.ref kd,rfl,hA.ins,c.cl,c.known,rfl,kd,rfl,.inl ⟨_,.inl hA.known⟩,_,rfl,_,Sum.inr nm,v,hA.known,rfl,hv,?_⟩
   exact q na _ (tn.sq _) (hA.setKnown _) zT.b
 | _=>cases hg
theorem z9f:zf ["hold","op","arg"] ["hold","op","arg"] (zb (top 101)):=fsM
theorem z6X (D:zk K mg "do_tell" (top 101)) (c:ja K C) (cs:Cons K mg):FN P w K mg base 1 "do_tell" ["hold","op","arg"] (zJ K C z0A):=by
 refine FN.o D z9f fun f cdv A outer s H vs Q E hr h=>?_
 obtain ⟨ho,hl,kd,sl,dx,op,arg,m,res,m',rfl,hA,hg,q⟩:=h
 obtain ⟨na,mn,tn⟩:=cs.next
 refine ⟨_,z7 (zy (je (zB (pv 0) rfl) (z0 (jq (zB (pv 0) rfl)) z8))) (ze (zi (zO rfl mn (v:=.ref na) rfl))),?_⟩
 unfold z0A at hg
 cases hv:m.st.getLast? with
 | none=>rw [hv] at hg;cases hg
 | some v=>
  rw [hv] at hg
  dsimp only at hg
  by_cases hz:qp m.sd.length=true
  case neg=>rw [kz hz] at hg;cases hg
  rw [kA hz] at hg
  cases hg
  have h1:=hA.setHeld m.st.dropLast
  refine ⟨_,rfl,ho,C,dx,_,.ref sl,rfl,hA.ins,c.cl,c.said,rfl,.inl ⟨rfl,_,SqL.of hA.said⟩,_,rfl,ho,C,dx,_,.ref hl,rfl,hA.ins,c.cl,c.held,rfl,.inl ⟨rfl,_,SqL.of hA.held⟩,hl,_,_,rfl,rfl,hA.held,qL hv,sl,_,_,rfl,rfl,h1.said,qR hz,?_⟩
  exact q na _ (tn.sq _) (h1.setSaid _) (zT.a.trans zT.c)
theorem z9d:zf ["hold","op","arg"] ["hold","op","arg"] (zb (top 103)):=fsM
theorem jN {a b:Str}:decide (V.str a=V.str b)=decide (a=b):=by
 by_cases h:a=b
 ·rw [h];simp
 ·rw [kh h,kh (fun z=>h (by injection z))]
theorem z9F (D:zk K mg "do_if" (top 103)) (c:ja K C) (cs:Cons K mg) (FT:FN P w K mg base 1 "is_true" ["value"] z0R):FN P w K mg base 2 "do_if" ["hold","op","arg"] (zJ K C gIf):=by
 refine FN.o D z9d fun f cdv A outer s H vs Q E hr h=>?_
 obtain ⟨ho,hl,kd,sl,dx,op,arg,m,res,m',rfl,hA,hg,q⟩:=h
 obtain ⟨na,mn,tn⟩:=cs.next
 obtain ⟨ga,mgo,tg⟩:=cs.go
 refine ⟨_,ze (zi (jo (zl qz (zm FT hr rfl (z0 (jq (zB (pv 0) rfl)) z8)) (qg qz (pv 1) zx (zo _)) (zo _)) (zO rfl mgo (v:=.ref ga) rfl) (zO rfl mn (v:=.ref na) rfl))),?_⟩
 unfold gIf at hg
 cases hv:m.st.getLast? with
 | none=>rw [hv] at hg;cases hg
 | some v=>
  rw [hv] at hg
  dsimp only at hg
  by_cases hz:jK v=true
  case neg=>rw [kz hz] at hg;cases hg
  rw [kA hz] at hg
  cases hg
  have h1:=hA.setHeld m.st.dropLast
  refine ⟨_,rfl,ho,C,dx,_,.ref hl,rfl,hA.ins,c.cl,c.held,rfl,.inl ⟨rfl,_,SqL.of hA.held⟩,hl,_,_,rfl,rfl,hA.held,qL hv,v,rfl,jJ hz,_,rfl,rfl,rfl,_,rfl,?_⟩
  rw [jN,JW]
  refine ite2 (fun e=>?_) (fun e=>?_)
  ·rw [kA (eq_of_beq e)] at q
   exact q ga _ (tg.sq _) h1 zT.a
  ·rw [kz (fun z=>e (beq_iff_eq.mpr z))] at q
   exact q na _ (tn.sq _) h1 zT.a
theorem z9c:zf ["hold","op","arg"] ["hold","op","arg"] (zb (top 104)):=fsM
theorem z9D (D:zk K mg "do_or" (top 104)) (c:ja K C) (cs:Cons K mg) (FT:FN P w K mg base 1 "is_true" ["value"] z0R):FN P w K mg base 2 "do_or" ["hold","op","arg"] (zJ K C gOr):=by
 refine FN.o D z9c fun f cdv A outer s H vs Q E hr h=>?_
 obtain ⟨ho,hl,kd,sl,dx,op,arg,m,res,m',rfl,hA,hg,q⟩:=h
 obtain ⟨na,mn,tn⟩:=cs.next
 obtain ⟨ga,mgo,tg⟩:=cs.go
 refine ⟨_,z7 (zQ (zl qz (zm FT hr rfl (z0 (zD zG (zB (pv 0) rfl) (Zp jb zh) (fun _ _=>rfl)) z8)) (qg qz (pv 1) zx (zo _)) (zo _)) (ze (zi (zO rfl mgo (v:=.ref ga) rfl))) zt)
  (z7 (zy (jq (zB (pv 0) rfl))) (ze (zi (zO rfl mn (v:=.ref na) rfl)))),?_⟩
 unfold gOr at hg
 cases hv:m.st.getLast? with
 | none=>rw [hv] at hg;cases hg
 | some v=>
  rw [hv] at hg
  dsimp only at hg
  by_cases hz:jK v=true
  case neg=>rw [kz hz] at hg;cases hg
  rw [kA hz] at hg
  have hat:atI m.st (-1)=some v:=by rw [z6K hv];exact z1n _ _
  refine ⟨_,rfl,ho,C,dx,_,.ref hl,rfl,hA.ins,c.cl,c.held,rfl,1,rfl,hl,_,_,v,rfl,rfl,SqL.of hA.held,hat,v,rfl,jJ hz,_,rfl,rfl,rfl,_,rfl,?_⟩
  rw [jN,JW]
  refine ite2 (fun e=>?_) (fun e=>?_)
  ·rw [kA (eq_of_beq e)] at hg
   cases hg
   exact q ga _ (tg.sq _) hA zT.refl
  ·rw [kz (fun z=>e (beq_iff_eq.mpr z))] at hg
   cases hg
   refine ⟨_,rfl,ho,C,dx,_,.ref hl,rfl,hA.ins,c.cl,c.held,rfl,.inl ⟨rfl,_,SqL.of hA.held⟩,hl,_,_,rfl,rfl,hA.held,qL hv,?_⟩
   exact q na _ (tn.sq _) (hA.setHeld _) zT.a
theorem z9b:zf ["hold","op","arg"] ["hold","op","arg"] (zb (top 105)):=fsM
theorem z3I (D:zk K mg "do_return" (top 105)) (c:ja K C):FN P w K mg base 1 "do_return" ["hold","op","arg"] (zJ K C jM):=by
 refine FN.o D z9b fun f cdv A outer s H vs Q E hr h=>?_
 obtain ⟨ho,hl,kd,sl,dx,op,arg,m,res,m',rfl,hA,hg,q⟩:=h
 refine ⟨_,ze (zi (zI (z0 zx (z0 (jq (zB (pv 0) rfl)) z8)))),?_⟩
 unfold jM at hg
 cases hv:m.st.getLast? with
 | none=>rw [hv] at hg;cases hg
 | some v=>
  rw [hv] at hg
  cases hg
  have h1:=hA.setHeld m.st.dropLast
  refine ⟨_,rfl,ho,C,dx,_,.ref hl,rfl,hA.ins,c.cl,c.held,rfl,.inl ⟨rfl,_,SqL.of hA.held⟩,hl,_,_,rfl,rfl,hA.held,qL hv,by show 2≤sizeLine;decide,fun p hp=>?_⟩
  have sp:=zg hp (.tup [.str "value",v])
  exact q p _ (SqT.of z6) (h1.same sp) (zT.a.trans (zT.of sp))
noncomputable def z4Q:Deed:=fun _ _ m=>some (.go,m)
theorem z9e:zf ["hold","op","arg"] ["hold","op","arg"] (zb (top 102)):=fsM
theorem z7d (D:zk K mg "do_jump" (top 102)) (cs:Cons K mg):FN P w K mg base 1 "do_jump" ["hold","op","arg"] (zJ K C z4Q):=by
 refine FN.o D z9e fun f cdv A outer s H vs Q E hr h=>?_
 obtain ⟨ho,hl,kd,sl,dx,op,arg,m,res,m',rfl,hA,hg,q⟩:=h
 obtain ⟨ga,mgo,tg⟩:=cs.go
 cases hg
 exact ⟨_,ze (zi (zO rfl mgo (v:=.ref ga) rfl)),q ga _ (tg.sq _) hA zT.refl⟩
end
theorem z5t:bootBuiltins "abs"=some (.builtin "abs"):=by trivial
theorem z4B {X:Cx}:OpR X (binaryOp .FloorDiv) (rI (fun _ j=>j≠0∧j.natAbs.log2 < 9000) fun i j=>.int (i.fdiv j)):=opI fun _ _ _ _ _ _ _ hc q=>floordiv_int hc.1 q (.inl (PyProof.noPylong_of_log2 hc.2))
noncomputable def big (i:Int):Bool:=decide (1000000000000000000 < i.natAbs)
theorem z3i {j:Int} (h:big j=false):j.natAbs.log2 < 9000:=by
 have h1:¬1000000000000000000 < j.natAbs:=of_decide_eq_false h
 by_cases z:j.natAbs=0
 ·rw [z];decide
 ·have h2:=(Nat.log2_lt z (k:=64)).mpr (by lia)
  lia
noncomputable def reck (op:Str) (i j:Int):Option Int:=
 if op="add" then some (i+j) else if op="sub" then some (i - j) else if op="mul" then some (i * j) else if op="div" then (if j=0 then none else some (i.fdiv j)) else if op="rest" then (if j=0 then none else some (i.fmod j)) else none
noncomputable def z6v (x y:V):Bool:=isB x == isB y&&decide (x=y)
noncomputable def Qx (op:Str) (x y:V):Option (V × V):=
 if op="same" then some (.non,.bl (z6v x y)) else match x,y with
 | .int i,.int j=>if big i=true then none else if big j=true then none else if (op="div"∨op="rest")∧j=0 then some (.str "Zero",.non) else if op="less" then some (.non,.bl (decide (i < j)))
  else (match reck op i j with
   | some k=>if big k=true then some (.str "Big",.non) else some (.non,.int k)
   | none=>none)
 | _,_=>some (.str "Type",.non)
theorem QH {op:Str} {x y:V} (h0:op≠"same") (h:ZJ x=false∨ZJ y=false):Qx op x y=some (.str "Type",.non):=by
 unfold Qx
 rw [kz h0]
 cases x with
 | int i=>
  cases y with
  | int j=>rcases h with h | h <;> cases h
  | _=>rfl
 | _=>rfl
noncomputable def z1K (op:Str) (x:V):Option (V × V):=
 if op="not" then some (.non,.bl (!z0P x)) else match x with
 | .int i=>some (.non,.int (-i))
 | _=>some (.str "Type",.non)
structure TabR (w:World) (K:ky) (mg:Str→Option Value):Prop where
 tab:∃d f1 f2 f3 f4 f5,mg "RECKONINGS"=some (.ref d)∧KTab w.params K d [("add",.ref f1),("sub",.ref f2),("mul",.ref f3),("div",.ref f4),("rest",.ref f5)]∧
  mg "sum_of"=some (.ref f1)∧mg "difference_of"=some (.ref f2)∧mg "product_of"=some (.ref f3)∧mg "quotient_of"=some (.ref f4)∧mg "rest_of"=some (.ref f5)
def spI2 (c:Int→Int→Prop) (g:Int→Int→Int):Sp:=fun vs H Q _=>∃i j,vs=[.int i,.int j]∧c i j∧Q (.int (g i j)) H
theorem jV {c:Int→Int→Prop} {g:Int→Int→Int} (vs:List V) (H:Hp) (Q:VK) (E:XK) (h:spI2 c g vs H Q E):vs.length=2:=by
 obtain ⟨i,j,rfl,_⟩:=h
 rfl
abbrev Sm (i j:Int):Prop:=big i=false∧big j=false
section
theorem sc70:zf ["first","second"] ["first","second"] (zb (top 70)):=fsM
theorem z8x (D:zk K mg "sum_of" (top 70)):FN P w K mg base 1 "sum_of" ["first","second"] (spI2 Sm (· +·)):=by
 refine FN.of D sc70 (fun _ _ _ _ _ _=>zU2 fun _ _=>rfl) jV (fun f cdv A outer s H vs Q E hr h=>?_)
 obtain ⟨i,j,rfl,hc,q⟩:=h
 exact ⟨_,ze (zi (zN qO (pv 0) (pv 1))),_,rfl,_,rfl,i,j,rfl,rfl,q⟩
theorem sc71:zf ["first","second"] ["first","second"] (zb (top 71)):=fsM
theorem z7i (D:zk K mg "difference_of" (top 71)):FN P w K mg base 1 "difference_of" ["first","second"] (spI2 Sm (· - ·)):=by
 refine FN.of D sc71 (fun _ _ _ _ _ _=>zU2 fun _ _=>rfl) jV (fun f cdv A outer s H vs Q E hr h=>?_)
 obtain ⟨i,j,rfl,hc,q⟩:=h
 exact ⟨_,ze (zi (zN QG (pv 0) (pv 1))),_,rfl,_,rfl,i,j,rfl,rfl,q⟩
theorem sc72:zf ["first","second"] ["first","second"] (zb (top 72)):=fsM
theorem z2y {i j:Int} (h:big i=false):CMul i j:=by
 have h1:¬1000000000000000000 < i.natAbs:=of_decide_eq_false h
 exact .inl ⟨by lia,by lia⟩
theorem z74 (D:zk K mg "product_of" (top 72)):FN P w K mg base 1 "product_of" ["first","second"] (spI2 Sm (· * ·)):=by
 refine FN.of D sc72 (fun _ _ _ _ _ _=>zU2 fun _ _=>rfl) jV (fun f cdv A outer s H vs Q E hr h=>?_)
 obtain ⟨i,j,rfl,hc,q⟩:=h
 exact ⟨_,ze (zi (zN JA (pv 0) (pv 1))),_,rfl,_,rfl,i,j,rfl,rfl,z2y hc.1,q⟩
theorem sc73:zf ["first","second"] ["first","second"] (zb (top 73)):=fsM
theorem z72 (D:zk K mg "quotient_of" (top 73)):FN P w K mg base 1 "quotient_of" ["first","second"] (spI2 (fun i j=>Sm i j∧j≠0) Int.fdiv):=by
 refine FN.of D sc73 (fun _ _ _ _ _ _=>zU2 fun _ _=>rfl) jV (fun f cdv A outer s H vs Q E hr h=>?_)
 obtain ⟨i,j,rfl,hc,q⟩:=h
 exact ⟨_,ze (zi (zN z4B (pv 0) (pv 1))),_,rfl,_,rfl,i,j,rfl,rfl,⟨hc.2,z3i hc.1.2⟩,q⟩
theorem sc74:zf ["first","second"] ["first","second"] (zb (top 74)):=fsM
theorem z71 (D:zk K mg "rest_of" (top 74)):FN P w K mg base 1 "rest_of" ["first","second"] (spI2 (fun i j=>Sm i j∧j≠0) Int.fmod):=by
 refine FN.of D sc74 (fun _ _ _ _ _ _=>zU2 fun _ _=>rfl) jV (fun f cdv A outer s H vs Q E hr h=>?_)
 obtain ⟨i,j,rfl,hc,q⟩:=h
 exact ⟨_,ze (zi (zN z6F (pv 0) (pv 1))),_,rfl,_,rfl,i,j,rfl,rfl,hc.2,q⟩
def z5D:Sp:=fun vs H Q _=>∃x y,vs=[x,y]∧Scal x∧Scal y∧Q (.bl (z6v x y)) H
theorem sc69:zf ["first","second"] ["first","second"] (zb (top 69)):=fsM
theorem z2F {x y:V} (hx:Scal x) (hy:Scal y) (h:isB x=isB y):scal x y=true:=by
 cases hx <;> cases hy <;> first | rfl | (cases h)
theorem z70 (D:zk K mg "are_same" (top 69)) (G:Glo mg):FN P w K mg base 1 "are_same" ["first","second"] z5D:=by
 refine FN.o D sc69 fun f cdv A outer s H vs Q E hr h=>?_
 obtain ⟨x,y,rfl,hx,hy,q⟩:=h
 refine ⟨_,ze (zi (qN (qg qz (zq zX rfl G.isinstance zE (z0 (pv 0) (z0 (Qu "bool" rfl G.bool jC) z8))) (zq zX rfl G.isinstance zE (z0 (pv 1) (z0 (Qu "bool" rfl G.bool jC) z8))) (zo _))
  (qV (qg qz (pv 0) (pv 1) (zo _))))),?_⟩
 obtain ⟨t1,ty1,k1⟩:=Za (K:=K) (H:=H) hx
 obtain ⟨t2,ty2,k2⟩:=Za (K:=K) (H:=H) hy
 refine ⟨_,rfl,_,"bool",t1,_,rfl,ty1,k1,_,rfl,_,"bool",t2,_,rfl,ty2,k2,rfl,isB x == isB y,congrArg V.bl JW,?_⟩
 unfold z6v at q
 cases e:isB x == isB y with
 | true=>
  rw [e,Bool.true_and] at q
  exact iteT ⟨_,rfl,_,rfl,z2F hx hy (eq_of_beq e),q⟩
 | false=>
  rw [e,Bool.false_and] at q
  exact iteF q
def z2q:Sp:=fun vs H Q _=>∃op x y r1 r2,vs=[.str op,x,y]∧Scal x∧Scal y∧Qx op x y=some (r1,r2)∧∀t H',Same H H'→H' t=some (.tup [r1,r2])→Q (.ref t) H'
theorem sc76:zf ["op","first","second","reckon","value"] ["op","first","second"] (zb (top 76)):=fsM
theorem z7s {k:Int}:decide ((1000000000000000000:Int) < (if k < 0 then -k else k))=big k:=by
 unfold big
 by_cases h:k < 0
 ·rw [kA h]
  by_cases z:(1000000000000000000:Int) < -k
  ·rw [ki z,ki (by lia)]
  ·rw [kh z,kh (by lia)]
 ·rw [kz h]
  by_cases z:(1000000000000000000:Int) < k
  ·rw [ki z,ki (by lia)]
  ·rw [kh z,kh (by lia)]
noncomputable def st66 (k:Nat):Stmt:=(zH (top 76)).getD k (.Pass ⟨0,0,0,0⟩)
noncomputable abbrev N66:List Str:=["op","first","second","reckon","value"]
noncomputable def z5W (op:Str) (i j:Int):Option (V × V):=if op="less" then some (.non,.bl (decide (i < j))) else (match reck op i j with
 | some k=>if big k=true then some (.str "Big",.non) else some (.non,.int k)
 | none=>none)
def T66:TS:=fun D σ H=>∃(op:Str) (i j:Int) (r1 r2:V),σ=[some (.str op),some (.int i),some (.int j),none,none]∧Sm i j∧z5W op i j=some (r1,r2)∧∀t H',Same H H'→H' t=some (.tup [r1,r2])→D.rt (.ref t) H'
theorem z6x {K:ky} {mg:Str→Option Value} {f1 f2 f3 f4 f5:Addr} {op:Str} {i j k:Int} (hs:Sm i j) (h:reck op i j=some k) (m1:mg "sum_of"=some (.ref f1)) (m2:mg "difference_of"=some (.ref f2)) (m3:mg "product_of"=some (.ref f3)) (m4:mg "quotient_of"=some (.ref f4)) (m5:mg "rest_of"=some (.ref f5))
  (F1:FN P w K mg base 1 "sum_of" ["first","second"] (spI2 Sm (· +·))) (F2:FN P w K mg base 1 "difference_of" ["first","second"] (spI2 Sm (· - ·))) (F3:FN P w K mg base 1 "product_of" ["first","second"] (spI2 Sm (· * ·)))
  (F4:FN P w K mg base 1 "quotient_of" ["first","second"] (spI2 (fun i j=>Sm i j∧j≠0) Int.fdiv)) (F5:FN P w K mg base 1 "rest_of" ["first","second"] (spI2 (fun i j=>Sm i j∧j≠0) Int.fmod)):
  ∃(c:Int→Int→Prop) (g:Int→Int→Int) (name:Str) (fa:Addr),FN P w K mg base 1 name ["first","second"] (spI2 c g)∧mg name=some (.ref fa)∧([("add",.ref f1),("sub",.ref f2),("mul",.ref f3),("div",.ref f4),("rest",.ref f5)]:List (Str × V)).lookup op=some (.ref fa)∧c i j∧g i j=k:=by
 unfold reck at h
 by_cases h1:op="add"
 ·rw [kA h1] at h;exact ⟨_,_,_,_,F1,m1,by rw [h1];rfl,hs,kB h⟩
 rw [kz h1] at h
 by_cases h1:op="sub"
 ·rw [kA h1] at h;exact ⟨_,_,_,_,F2,m2,by rw [h1];rfl,hs,kB h⟩
 rw [kz h1] at h
 by_cases h1:op="mul"
 ·rw [kA h1] at h;exact ⟨_,_,_,_,F3,m3,by rw [h1];rfl,hs,kB h⟩
 rw [kz h1] at h
 by_cases h1:op="div"
 ·rw [kA h1] at h
  by_cases hj:j=0
  ·rw [kA hj] at h;cases h
  ·rw [kz hj] at h;exact ⟨_,_,_,_,F4,m4,by rw [h1];rfl,⟨hs,hj⟩,kB h⟩
 rw [kz h1] at h
 by_cases h1:op="rest"
 ·rw [kA h1] at h
  by_cases hj:j=0
  ·rw [kA hj] at h;cases h
  ·rw [kz hj] at h;exact ⟨_,_,_,_,F5,m5,by rw [h1];rfl,⟨hs,hj⟩,kB h⟩
 rw [kz h1] at h
 cases h
theorem z7V {f:Addr} {cdv:Value} {A:Around} {outer:List Env} {s:Shared} {H0:Hp} {E:XK} (hr:Room 1 (A.deeper (envOfC "made_of_two" (zb (top 76)) s.heap.objs.size f cdv))) (G:Glo mg) (T:TabR w K mg)
  (F1:FN P w K mg base 1 "sum_of" ["first","second"] (spI2 Sm (· +·))) (F2:FN P w K mg base 1 "difference_of" ["first","second"] (spI2 Sm (· - ·))) (F3:FN P w K mg base 1 "product_of" ["first","second"] (spI2 Sm (· * ·)))
  (F4:FN P w K mg base 1 "quotient_of" ["first","second"] (spI2 (fun i j=>Sm i j∧j≠0) Int.fdiv)) (F5:FN P w K mg base 1 "rest_of" ["first","second"] (spI2 (fun i j=>Sm i j∧j≠0) Int.fmod)):
  PSs (cxOf CX0 P w K mg base N66 "made_of_two" (zb (top 76)) f cdv A outer s H0 E).nox [st66 3,st66 4,st66 5,st66 6,st66 7] T66:=by
 obtain ⟨d,f1,f2,f3,f4,f5,md,td,m1,m2,m3,m4,m5⟩:=T.tab
 refine PSs.imp (z7 (zQ (zl qz (pv 0) zx (zo _)) (ze (zi (zI (z0 zR (z0 (qg z4A (pv 1) (pv 2) (zo _)) z8))))) zt)
  (z7 (zw (i:=3) sc76.nd rfl (Or.inl rfl) (QZ td rfl md (pv 0) (fun _ _=>rfl)))
  (z7 (zw (i:=4) sc76.nd rfl (Or.inl rfl) (J2 (pv 3) (z0 (pv 1) (z0 (pv 2) z8))))
  (z7 (zQ (zl z34 (zq z5n rfl G.abs z5t (z0 (pv 4) z8)) (qC rfl G.made) (zo _)) (ze (zi (zI (z0 zx (z0 zR z8))))) zt)
  (ze (zi (zI (z0 zR (z0 (pv 4) z8))))))))) ?_
 rintro D σ H ⟨op,i,j,r1,r2,rfl,hs,hm,q⟩
 unfold z5W at hm
 refine ⟨_,rfl,rfl,decide (op="less"),congrArg V.bl jN,?_⟩
 by_cases h0:op="less"
 ·rw [kA h0] at hm
  cases hm
  rw [ki h0]
  exact iteT ⟨_,rfl,_,rfl,_,_,rfl,rfl,by show 2≤sizeLine;decide,fun t ht=>q t _ (zg ht _) z6⟩
 rw [kz h0] at hm
 rw [kh h0]
 refine iteF ?_
 cases hk:reck op i j with
 | none=>rw [hk] at hm;cases hm
 | some k=>
  rw [hk] at hm
  dsimp only at hm
  obtain ⟨c,g,name,fa,⟨f',fd,a',b',c',d'⟩,e1,e2,e3,e4⟩:=z6x (P:=P) (w:=w) (base:=base) hs hk m1 m2 m3 m4 m5 F1 F2 F3 F4 F5
  rw [a'] at e1
  cases e1
  subst e4
  refine ⟨_,rfl,op,_,rfl,e2,fa,fd,_,_,1,rfl,b',d',hr,c',_,rfl,_,rfl,i,j,rfl,e3,?_⟩
  refine ⟨_,rfl,_,rfl,_,_,rfl,rfl,big (g i j),congrArg V.bl z7s,?_⟩
  cases b:big (g i j) with
  | true=>
   rw [b,kA rfl] at hm
   cases hm
   exact iteT ⟨by show 2≤sizeLine;decide,fun t ht=>q t _ (zg ht _) z6⟩
  | false=>
   rw [b,kz ka] at hm
   cases hm
   exact iteF ⟨_,rfl,by show 2≤sizeLine;decide,fun t ht=>q t _ (zg ht _) z6⟩
theorem z52 (D:zk K mg "made_of_two" (top 76)) (FN1:FN P w K mg base 1 "is_number" ["thing"] (sp1 ZJ)) (FSm:FN P w K mg base 1 "are_same" ["first","second"] z5D) (G:Glo mg) (T:TabR w K mg)
  (F1:FN P w K mg base 1 "sum_of" ["first","second"] (spI2 Sm (· +·))) (F2:FN P w K mg base 1 "difference_of" ["first","second"] (spI2 Sm (· - ·))) (F3:FN P w K mg base 1 "product_of" ["first","second"] (spI2 Sm (· * ·)))
  (F4:FN P w K mg base 1 "quotient_of" ["first","second"] (spI2 (fun i j=>Sm i j∧j≠0) Int.fdiv)) (F5:FN P w K mg base 1 "rest_of" ["first","second"] (spI2 (fun i j=>Sm i j∧j≠0) Int.fmod)):FN P w K mg base 2 "made_of_two" ["op","first","second"] z2q:=by
 refine FN.o D sc76 fun f cdv A outer s H vs Q E hr h=>?_
 obtain ⟨op,x,y,r1,r2,rfl,hx,hy,hm,q⟩:=h
 refine ⟨_,z7 (zQ (zl qz (pv 0) zx (zo _)) (ze (zi (zI (z0 zR (z0 (zm FSm hr rfl (z0 (pv 1) (z0 (pv 2) z8))) z8))))) zt)
  (z7 (zQ (PW.pt (Qt (jc (qy (zm FN1 hr rfl (z0 (pv 1) z8)))) (jY (jc (qy (zm FN1 hr rfl (z0 (pv 2) z8))))))) (ze (zi (zI (z0 zx (z0 zR z8))))) zt)
  (z7 (zQ (PW.pt (Jt (zl qX (pv 0) (zI (z0 zx (z0 zx z8))) rfl) (Q0 (zl qz (pv 2) zh (zo _))))) (ze (zi (zI (z0 zx (z0 zR z8))))) zt)
  (z7V hr G T F1 F2 F3 F4 F5))),?_⟩
 refine ⟨_,rfl,rfl,decide (op="same"),congrArg V.bl jN,?_⟩
 by_cases h0:op="same"
 ·unfold Qx at hm
  rw [kA h0] at hm
  cases hm
  rw [ki h0]
  exact iteT ⟨_,rfl,_,rfl,x,y,rfl,hx,hy,by show 2≤sizeLine;decide,fun t ht=>q t _ (zg ht _) z6⟩
 rw [kh h0]
 refine iteF ⟨_,rfl,x,rfl,hx,ZJ x,rfl,?_⟩
 have typ:Qx op x y=some (.str "Type",.non)→∀σ,tTup (z0d (tC (.str "Type")) (z0d (tC .non) tNil)) σ H Q:=fun e σ=>by
  rw [hm] at e
  cases e
  exact ⟨by show 2≤sizeLine;decide,fun t ht=>q t _ (zg ht _) z6⟩
 cases hnx:ZJ x with
 | false=>exact iteT (iteT (typ (QH h0 (.inl hnx)) _))
 | true=>
  refine iteF ⟨_,rfl,y,rfl,hy,ZJ y,rfl,?_⟩
  cases hny:ZJ y with
  | false=>exact iteT (typ (QH h0 (.inr hny)) _)
  | true=>
   refine iteF ?_
   clear typ
   cases hx with
   | int i=>
    cases hy with
    | int j=>
     unfold Qx at hm
     rw [kz h0] at hm
     dsimp only at hm
     cases b1:big i with
     | true=>rw [b1,kA rfl] at hm;cases hm
     | false=>
      rw [b1,kz ka] at hm
      cases b2:big j with
      | true=>rw [b2,kA rfl] at hm;cases hm
      | false=>
       rw [b2,kz ka] at hm
       refine ⟨_,rfl,by show 2≤sizeLine;decide,fun p hp=>⟨p,_,rfl,.inr (SqT.of z6),rfl,rfl,inT op ["div","rest"],rfl,?_⟩⟩
       have s1:=zg hp (.tup [.str "div",.str "rest"])
       generalize upd H p (.tup [.str "div",.str "rest"])=H1 at *
       have go:¬((op="div"∨op="rest")∧j=0)→T66 { nx:=fun _ H'=>Q .non H',rt:=Q } [some (.str op),some (.int i),some (.int j),none,none] H1:=fun z=>by
        rw [kz z] at hm
        exact ⟨op,i,j,r1,r2,rfl,⟨b1,b2⟩,hm,fun t H' s' ht=>q t H' (s1.trans s') ht⟩
       cases hin:inT op ["div","rest"] with
       | false=>
        refine iteF (iteF (go fun z=>?_))
        have:inT op ["div","rest"]=true:=Zt.mpr (by rcases z.1 with z | z <;> rw [z] <;> decide+kernel)
        rw [hin] at this
        cases this
       | true=>
        have hop:op="div"∨op="rest":=by
         have:=Zt.mp hin
         rcases kD.mp this with z | z
         ·exact .inl z
         ·exact .inr (ko.mp z)
        obtain ⟨z,hz⟩:∃z,decide (V.int j=V.int 0)=z:=⟨_,rfl⟩
        refine iteT ⟨_,rfl,rfl,z,congrArg V.bl hz,?_⟩
        cases z with
        | true=>
         have hj:j=0:=by have:=kC hz;injection this
         rw [kA ⟨hop,hj⟩] at hm
         cases hm
         exact iteT ⟨by show 2≤sizeLine;decide,fun t ht=>q t _ (s1.trans (zg ht _)) z6⟩
        | false=>
         have hj:¬j=0:=fun z=>by rw [z] at hz;cases hz
         exact iteF (go fun z=>hj z.2)
    | _=>cases hny
   | _=>cases hnx
def z2r:Sp:=fun vs H Q _=>∃op x r1 r2,vs=[.str op,x]∧Scal x∧z1K op x=some (r1,r2)∧∀t H',Same H H'→H' t=some (.tup [r1,r2])→Q (.ref t) H'
theorem sc77:zf ["op","value"] ["op","value"] (zb (top 77)):=fsM
theorem z53 (D:zk K mg "made_of_one" (top 77)) (FN1:FN P w K mg base 1 "is_number" ["thing"] (sp1 ZJ)) (FT:FN P w K mg base 1 "is_true" ["value"] z0R):FN P w K mg base 2 "made_of_one" ["op","value"] z2r:=by
 refine FN.o D sc77 fun f cdv A outer s H vs Q E hr h=>?_
 obtain ⟨op,x,r1,r2,rfl,hx,hm,q⟩:=h
 refine ⟨_,z7 (zQ (zl qz (pv 0) zx (zo _)) (ze (zi (zI (z0 zR (z0 (z5R (zm FT hr rfl (z0 (pv 1) z8))) z8))))) zt)
  (z7 (zQ (jc (qy (zm FN1 hr rfl (z0 (pv 1) z8)))) (ze (zi (zI (z0 zx (z0 zR z8))))) zt)
  (ze (zi (zI (z0 zR (z0 (Zp jb (pv 1)) z8)))))),?_⟩
 unfold z1K at hm
 refine ⟨_,rfl,rfl,decide (op="not"),congrArg V.bl jN,?_⟩
 by_cases h0:op="not"
 ·rw [kA h0] at hm
  cases hm
  rw [ki h0]
  exact iteT ⟨_,rfl,x,rfl,hx,_,rfl,by show 2≤sizeLine;decide,fun t ht=>q t _ (zg ht _) z6⟩
 rw [kz h0] at hm
 rw [kh h0]
 refine iteF ⟨_,rfl,x,rfl,hx,ZJ x,rfl,?_⟩
 cases hx with
 | int i=>cases hm;exact iteF ⟨_,rfl,i,rfl,by show 2≤sizeLine;decide,fun t ht=>q t _ (zg ht _) z6⟩
 | non=>cases hm;exact iteT ⟨by show 2≤sizeLine;decide,fun t ht=>q t _ (zg ht _) z6⟩
 | bl b=>cases hm;exact iteT ⟨by show 2≤sizeLine;decide,fun t ht=>q t _ (zg ht _) z6⟩
 | str z hz=>cases hm;exact iteT ⟨by show 2≤sizeLine;decide,fun t ht=>q t _ (zg ht _) z6⟩
end
noncomputable def z3D:Deed:=fun _ _ m=>match m.st.getLast? with
 | some _=>some (.next,{ m with st:=m.st.dropLast })
 | none=>none
noncomputable def QA (st:List V) (arg:V):Option (Nat × V):=match arg with
 | .int n=>if 1≤n∧n.toNat≤st.length then (st[st.length - n.toNat]?).map fun v=>(st.length - n.toNat,v) else none
 | _=>none
noncomputable def z0D:Deed:=fun _ arg m=>match QA m.st arg with
 | some (_,v)=>if qp m.st.length=true then some (.next,{ m with st:=m.st++[v] }) else none
 | none=>none
noncomputable def z0B:Deed:=fun _ arg m=>match QA m.st arg,m.st.getLast? with
 | some (j,v),some t=>some (.next,{ m with st:=(m.st.set (m.st.length - 1) v).set j t })
 | _,_=>none
noncomputable def z6M (v:V):Option Str:=match v with
 | .str z=>some (if Qz (.str z)=true then z else "Type")
 | _=>some "Type"
noncomputable def JO:Deed:=fun _ _ m=>match m.st.getLast? with
 | some v=>if jK v=true then (z6M v).map fun k=>(.fault k,{ m with st:=m.st.dropLast }) else none
 | none=>none
theorem z3T {st:List V} {n:Int} {j:Nat} {v:V} (h:QA st (.int n)=some (j,v)):ixN st.length (-n)=some j∧st[j]?=some v:=by
 unfold QA at h
 dsimp only at h
 by_cases hz:1≤n∧n.toNat≤st.length
 case neg=>rw [kz hz] at h;cases h
 rw [kA hz] at h
 cases e:st[st.length - n.toNat]? with
 | none=>rw [e] at h;cases h
 | some w=>
  rw [e] at h
  cases h
  refine ⟨?_,e⟩
  unfold ixN
  rw [kz (by lia),kA (by lia)]
  congr 1
  lia
section
variable {C:Addr}
theorem sc95:zf ["hold","op","arg"] ["hold","op","arg"] (zb (top 95)):=fsM
theorem z7g (D:zk K mg "do_drop" (top 95)) (c:ja K C) (cs:Cons K mg):FN P w K mg base 1 "do_drop" ["hold","op","arg"] (zJ K C z3D):=by
 refine FN.o D sc95 fun f cdv A outer s H vs Q E hr h=>?_
 obtain ⟨ho,hl,kd,sl,dx,op,arg,m,res,m',rfl,hA,hg,q⟩:=h
 obtain ⟨na,mn,tn⟩:=cs.next
 refine ⟨_,z7 (zy (jq (zB (pv 0) rfl))) (ze (zi (zO rfl mn (v:=.ref na) rfl))),?_⟩
 unfold z3D at hg
 cases hv:m.st.getLast? with
 | none=>rw [hv] at hg;cases hg
 | some v=>
  rw [hv] at hg
  cases hg
  refine ⟨_,rfl,ho,C,dx,_,.ref hl,rfl,hA.ins,c.cl,c.held,rfl,.inl ⟨rfl,_,SqL.of hA.held⟩,hl,_,_,rfl,rfl,hA.held,qL hv,?_⟩
  exact q na _ (tn.sq _) (hA.setHeld _) zT.a
theorem sc96:zf ["hold","op","arg"] ["hold","op","arg"] (zb (top 96)):=fsM
theorem z7j (D:zk K mg "do_copy" (top 96)) (c:ja K C) (cs:Cons K mg):FN P w K mg base 1 "do_copy" ["hold","op","arg"] (zJ K C z0D):=by
 refine FN.o D sc96 fun f cdv A outer s H vs Q E hr h=>?_
 obtain ⟨ho,hl,kd,sl,dx,op,arg,m,res,m',rfl,hA,hg,q⟩:=h
 obtain ⟨na,mn,tn⟩:=cs.next
 refine ⟨_,z7 (zy (je (zB (pv 0) rfl) (z0 (zD zG (zB (pv 0) rfl) (Zp jb (pv 2)) (fun _ _=>rfl)) z8))) (ze (zi (zO rfl mn (v:=.ref na) rfl))),?_⟩
 unfold z0D at hg
 cases hd:QA m.st arg with
 | none=>rw [hd] at hg;cases hg
 | some jv=>
  obtain ⟨j,v⟩:=jv
  rw [hd] at hg
  dsimp only at hg
  by_cases hz:qp m.st.length=true
  case neg=>rw [kz hz] at hg;cases hg
  rw [kA hz] at hg
  cases hg
  obtain ⟨n,rfl⟩:∃n,arg=.int n:=by
   cases arg with
   | int n=>exact ⟨n,rfl⟩
   | _=>cases hd
  obtain ⟨h1,h2⟩:=z3T hd
  have hat:atI m.st (-n)=some v:=by
   unfold atI
   rw [h1]
   exact h2
  refine ⟨_,rfl,ho,C,dx,_,.ref hl,rfl,hA.ins,c.cl,c.held,rfl,.inl ⟨rfl,_,SqL.of hA.held⟩,_,rfl,ho,C,dx,_,.ref hl,rfl,hA.ins,c.cl,c.held,rfl,_,rfl,n,rfl,hl,_,_,v,rfl,rfl,SqL.of hA.held,hat,hl,_,_,rfl,rfl,hA.held,qR hz,?_⟩
  exact q na _ (tn.sq _) (hA.setHeld _) zT.a
theorem sc97:zf ["hold","op","arg","held"] ["hold","op","arg"] (zb (top 97)):=fsM
theorem z6Y (D:zk K mg "do_swap" (top 97)) (c:ja K C) (cs:Cons K mg):FN P w K mg base 1 "do_swap" ["hold","op","arg"] (zJ K C z0B):=by
 refine FN.o D sc97 fun f cdv A outer s H vs Q E hr h=>?_
 obtain ⟨ho,hl,kd,sl,dx,op,arg,m,res,m',rfl,hA,hg,q⟩:=h
 obtain ⟨na,mn,tn⟩:=cs.next
 refine ⟨_,z7 (zw (i:=3) sc97.nd rfl (Or.inl rfl) (zB (pv 0) rfl))
  (z7 (j6 (zI (z0 (zD zG (pv 3) (Zp jb (pv 2)) (fun _ _=>rfl)) (z0 (zD zG (pv 3) (Zp jb zh) (fun _ _=>rfl)) z8))) (j7 (n:=2) rfl (zn (ZA (pv 3) (Zp jb zh) j5) (zn (ZA (pv 3) (Zp jb (pv 2)) j5) qf))))
  (ze (zi (zO rfl mn (v:=.ref na) rfl)))),?_⟩
 unfold z0B at hg
 cases hd:QA m.st arg with
 | none=>rw [hd] at hg;cases hg
 | some jv=>
  obtain ⟨j,v⟩:=jv
  cases hv:m.st.getLast? with
  | none=>rw [hd,hv] at hg;cases hg
  | some t=>
   rw [hd,hv] at hg
   cases hg
   obtain ⟨n,rfl⟩:∃n,arg=.int n:=by
    cases arg with
    | int n=>exact ⟨n,rfl⟩
    | _=>cases hd
   obtain ⟨h1,h2⟩:=z3T hd
   have hat:atI m.st (-n)=some v:=by
    unfold atI
    rw [h1]
    exact h2
   have hne:0 < m.st.length:=by
    have:=(kf.mp (qL hv)).1
    lia
   have hlx:ixN m.st.length (-1)=some (m.st.length - 1):=by
    unfold ixN
    rw [kz (by decide),kA (by lia)]
    congr 1
    lia
   have hlt:atI m.st (-1)=some t:=by
    unfold atI
    rw [hlx]
    exact qL hv
   refine ⟨_,rfl,ho,C,dx,_,.ref hl,rfl,hA.ins,c.cl,c.held,rfl,?_⟩
   refine ⟨_,rfl,_,rfl,n,rfl,hl,_,_,v,rfl,rfl,SqL.of hA.held,hat,_,rfl,1,rfl,hl,_,_,t,rfl,rfl,SqL.of hA.held,hlt,by show 2≤sizeLine;decide,fun tp htp=>?_⟩
   have st:=zg htp (.tup [v,t])
   have hA1:=hA.same st
   refine ⟨tp,_,rfl,SqT.of z6,rfl,_,_,rfl,_,rfl,1,rfl,hl,_,_,m.st.length - 1,rfl,rfl,hA1.held,hlx,?_⟩
   have hA2:=hA1.setHeld (m.st.set (m.st.length - 1) v)
   refine ⟨_,_,rfl,_,rfl,_,rfl,n,rfl,hl,_,_,j,rfl,rfl,hA2.held,by rw [List.length_set];exact h1,?_⟩
   exact ⟨rfl,q na _ (tn.sq _) (hA2.setHeld _) ((zT.of st).trans (zT.a.trans zT.a))⟩
def z2s:Sp:=fun vs H Q _=>∃x k,vs=[x]∧Scal x∧z6M x=some k∧Q (.str k) H
theorem sc78:zf ["value"] ["value"] (zb (top 78)):=fsM
theorem z56 (D:zk K mg "kind_raised" (top 78)) (FK:FN P w K mg base 2 "is_kind" ["thing"] (sp1 Qz)):FN P w K mg base 3 "kind_raised" ["value"] z2s:=by
 refine FN.o D sc78 fun f cdv A outer s H vs Q E hr h=>?_
 obtain ⟨x,k,rfl,hx,hk,q⟩:=h
 refine ⟨_,ze (zi (jo (qy (zm FK hr rfl (z0 (pv 0) z8))) (pv 0) zx)),?_⟩
 refine ⟨_,rfl,x,rfl,hx,Qz x,rfl,?_⟩
 cases hx with
 | non=>cases hk;exact iteF q
 | bl b=>cases hk;exact iteF q
 | int i=>cases hk;exact iteF q
 | str z hz=>
  cases hk
  cases e:Qz (.str z) with
  | true=>rw [e,kA rfl] at q;exact iteT ⟨_,rfl,q⟩
  | false=>rw [e,kz ka] at q;exact iteF q
theorem z9a:zf ["hold","op","arg"] ["hold","op","arg"] (zb (top 106)):=fsM
theorem z4X (D:zk K mg "do_raise" (top 106)) (c:ja K C) (FK:FN P w K mg base 3 "kind_raised" ["value"] z2s):FN P w K mg base 4 "do_raise" ["hold","op","arg"] (zJ K C JO):=by
 refine FN.o D z9a fun f cdv A outer s H vs Q E hr h=>?_
 obtain ⟨ho,hl,kd,sl,dx,op,arg,m,res,m',rfl,hA,hg,q⟩:=h
 refine ⟨_,ze (zi (zI (z0 zx (z0 (zm FK hr rfl (z0 (jq (zB (pv 0) rfl)) z8)) z8)))),?_⟩
 unfold JO at hg
 cases hv:m.st.getLast? with
 | none=>rw [hv] at hg;cases hg
 | some v=>
  rw [hv] at hg
  dsimp only at hg
  by_cases hz:jK v=true
  case neg=>rw [kz hz] at hg;cases hg
  rw [kA hz] at hg
  cases hk:z6M v with
  | none=>rw [hk] at hg;cases hg
  | some k=>
   rw [hk] at hg
   cases hg
   have h1:=hA.setHeld m.st.dropLast
   refine ⟨_,rfl,ho,C,dx,_,.ref hl,rfl,hA.ins,c.cl,c.held,rfl,.inl ⟨rfl,_,SqL.of hA.held⟩,hl,_,_,rfl,rfl,hA.held,qL hv,v,k,rfl,jJ hz,hk,by show 2≤sizeLine;decide,fun p hp=>?_⟩
   have sp:=zg hp (.tup [.str "fault",.str k])
   exact q p _ (SqT.of z6) (h1.same sp) (zT.a.trans (zT.of sp))
end
def jh (H H':Hp) (t:Addr):Prop:=∀b o,H b=some o→b≠t→H' b=some o
noncomputable def pofM (r1 r2:V) (m:Mst):Option (Res × Mst):=match r1 with
 | .non=>if qp m.st.length=true then some (.next,{ m with st:=m.st++[r2] }) else none
 | .str k=>some (.fault k,m)
 | _=>none
noncomputable def gTwo:Deed:=fun op _ m=>match m.st.getLast? with
 | some y=>(match m.st.dropLast.getLast? with
  | some x=>if jK x=true∧jK y=true then (match Qx op x y with
   | some (r1,r2)=>pofM r1 r2 { m with st:=m.st.dropLast.dropLast }
   | none=>none) else none
  | none=>none)
 | none=>none
noncomputable def gOne:Deed:=fun op _ m=>match m.st.getLast? with
 | some x=>if jK x=true then (match z1K op x with
   | some (r1,r2)=>pofM r1 r2 { m with st:=m.st.dropLast }
   | none=>none) else none
 | none=>none
section
variable {C:Addr}
def z6m (K:ky) (C:Addr):Sp:=fun vs H Q _=>∃ho hl kd sl dx m ma r1 r2 res m',vs=[.ref ho,.ref ma]∧qx H C ho hl kd sl dx m∧H ma=some (.tup [r1,r2])∧pofM r1 r2 m=some (res,m')∧
 ∀t H',SqT K H' t (resV res)→qx H' C ho hl kd sl dx m'→zT H H' hl kd sl→Q (.ref t) H'
theorem sc98:zf ["hold","made","kind","value"] ["hold","made"] (zb (top 98)):=fsM
theorem z8B (D:zk K mg "pushed_or_fault" (top 98)) (c:ja K C) (cs:Cons K mg):FN P w K mg base 1 "pushed_or_fault" ["hold","made"] (z6m K C):=by
 refine FN.o D sc98 fun f cdv A outer s H vs Q E hr h=>?_
 obtain ⟨ho,hl,kd,sl,dx,m,ma,r1,r2,res,m',rfl,hA,hma,hp,q⟩:=h
 obtain ⟨na,mn,tn⟩:=cs.next
 refine ⟨_,z7 (j6 (pv 1) (j7 rfl (zn (zp (i:=2) sc98.nd rfl (Or.inl rfl)) (zn (zp (i:=3) sc98.nd rfl (Or.inl rfl)) qf))))
  (z7 (zQ (zl jL (pv 2) zR (zo _)) (ze (zi (zI (z0 zx (z0 (pv 2) z8))))) zt)
  (z7 (zy (je (zB (pv 0) rfl) (z0 (pv 3) z8))) (ze (zi (zO rfl mn (v:=.ref na) rfl))))),?_⟩
 refine ⟨_,rfl,ma,_,rfl,SqT.of hma,rfl,_,_,rfl,_,_,rfl,rfl,?_⟩
 unfold pofM at hp
 cases r1 with
 | non=>
  dsimp only at hp
  by_cases hz:qp m.st.length=true
  case neg=>rw [kz hz] at hp;cases hp
  rw [kA hz] at hp
  cases hp
  refine ⟨_,rfl,rfl,false,rfl,iteF ?_⟩
  refine ⟨_,rfl,ho,C,dx,_,.ref hl,rfl,hA.ins,c.cl,c.held,rfl,.inl ⟨rfl,_,SqL.of hA.held⟩,_,rfl,hl,_,_,rfl,rfl,hA.held,qR hz,?_⟩
  exact q na _ (tn.sq _) (hA.setHeld _) zT.a
 | str k=>
  cases hp
  refine ⟨_,rfl,rfl,true,rfl,iteT ⟨_,rfl,by show 2≤sizeLine;decide,fun p hp=>?_⟩⟩
  have sp:=zg hp (.tup [.str "fault",.str k])
  exact q p _ (SqT.of z6) (hA.same sp) (zT.of sp)
 | _=>cases hp
theorem sc99:zf ["hold","op","arg","second","first"] ["hold","op","arg"] (zb (top 99)):=fsM
theorem z8v (D:zk K mg "do_two" (top 99)) (c:ja K C) (FM:FN P w K mg base 2 "made_of_two" ["op","first","second"] z2q) (FP:FN P w K mg base 1 "pushed_or_fault" ["hold","made"] (z6m K C)):FN P w K mg base 3 "do_two" ["hold","op","arg"] (zJ K C gTwo):=by
 refine FN.o D sc99 fun f cdv A outer s H vs Q E hr h=>?_
 obtain ⟨ho,hl,kd,sl,dx,op,arg,m,res,m',rfl,hA,hg,q⟩:=h
 refine ⟨_,z7 (zw (i:=3) sc99.nd rfl (Or.inl rfl) (jq (zB (pv 0) rfl)))
  (z7 (zw (i:=4) sc99.nd rfl (Or.inl rfl) (jq (zB (pv 0) rfl)))
  (ze (zi (zm FP (hr.mono (by decide)) rfl (z0 (pv 0) (z0 (zm FM hr rfl (z0 (pv 1) (z0 (pv 4) (z0 (pv 3) z8)))) z8)))))),?_⟩
 unfold gTwo at hg
 cases hv:m.st.getLast? with
 | none=>rw [hv] at hg;cases hg
 | some y=>
  rw [hv] at hg
  dsimp only at hg
  cases hv2:m.st.dropLast.getLast? with
  | none=>rw [hv2] at hg;cases hg
  | some x=>
   rw [hv2] at hg
   dsimp only at hg
   by_cases hz:jK x=true∧jK y=true
   case neg=>rw [kz hz] at hg;cases hg
   rw [kA hz] at hg
   cases hm:Qx op x y with
   | none=>rw [hm] at hg;cases hg
   | some r=>
    obtain ⟨r1,r2⟩:=r
    rw [hm] at hg
    dsimp only at hg
    have h1:=hA.setHeld m.st.dropLast
    have h2:=h1.setHeld m.st.dropLast.dropLast
    refine ⟨_,rfl,ho,C,dx,_,.ref hl,rfl,hA.ins,c.cl,c.held,rfl,.inl ⟨rfl,_,SqL.of hA.held⟩,hl,_,_,rfl,rfl,hA.held,qL hv,?_⟩
    refine ⟨_,rfl,ho,C,dx,_,.ref hl,rfl,h1.ins,c.cl,c.held,rfl,.inl ⟨rfl,_,SqL.of h1.held⟩,hl,_,_,rfl,rfl,h1.held,qL hv2,?_⟩
    refine ⟨_,rfl,_,rfl,_,rfl,_,rfl,op,x,y,r1,r2,rfl,jJ hz.1,jJ hz.2,hm,fun t H' s' ht=>?_⟩
    exact ⟨ho,hl,kd,sl,dx,_,t,r1,r2,res,m',rfl,h2.same s',ht,hg,fun t2 H2 a b r=>q t2 H2 a b ((zT.a.trans zT.a).trans ((zT.of s').trans r))⟩
theorem z9g:zf ["hold","op","arg"] ["hold","op","arg"] (zb (top 100)):=fsM
theorem z8C (D:zk K mg "do_one" (top 100)) (c:ja K C) (FM:FN P w K mg base 2 "made_of_one" ["op","value"] z2r) (FP:FN P w K mg base 1 "pushed_or_fault" ["hold","made"] (z6m K C)):FN P w K mg base 3 "do_one" ["hold","op","arg"] (zJ K C gOne):=by
 refine FN.o D z9g fun f cdv A outer s H vs Q E hr h=>?_
 obtain ⟨ho,hl,kd,sl,dx,op,arg,m,res,m',rfl,hA,hg,q⟩:=h
 refine ⟨_,ze (zi (zm FP (hr.mono (by decide)) rfl (z0 (pv 0) (z0 (zm FM hr rfl (z0 (pv 1) (z0 (jq (zB (pv 0) rfl)) z8))) z8)))),?_⟩
 unfold gOne at hg
 cases hv:m.st.getLast? with
 | none=>rw [hv] at hg;cases hg
 | some x=>
  rw [hv] at hg
  dsimp only at hg
  by_cases hz:jK x=true
  case neg=>rw [kz hz] at hg;cases hg
  rw [kA hz] at hg
  cases hm:z1K op x with
  | none=>rw [hm] at hg;cases hg
  | some r=>
   obtain ⟨r1,r2⟩:=r
   rw [hm] at hg
   dsimp only at hg
   have h1:=hA.setHeld m.st.dropLast
   refine ⟨_,rfl,_,rfl,_,rfl,ho,C,dx,_,.ref hl,rfl,hA.ins,c.cl,c.held,rfl,.inl ⟨rfl,_,SqL.of hA.held⟩,hl,_,_,rfl,rfl,hA.held,qL hv,op,x,r1,r2,rfl,jJ hz,hm,fun t H' s' ht=>?_⟩
   exact ⟨ho,hl,kd,sl,dx,_,t,r1,r2,res,m',rfl,h1.same s',ht,hg,fun t2 H2 a b r=>q t2 H2 a b (zT.a.trans ((zT.of s').trans r))⟩
end
structure DAd where
 (push load quick store clear drop copy swap two one tell jump if_ or_ ret rais:Addr)
noncomputable def Zf (a:DAd):List (Str × V):=[("push",.ref a.push),("load",.ref a.load),("quick",.ref a.quick),("store",.ref a.store),("clear",.ref a.clear),("drop",.ref a.drop),("copy",.ref a.copy),("swap",.ref a.swap),("add",.ref a.two),("sub",.ref a.two),("mul",.ref a.two),("div",.ref a.two),("rest",.ref a.two),("less",.ref a.two),("same",.ref a.two),("neg",.ref a.one),("not",.ref a.one),("tell",.ref a.tell),("jump",.ref a.jump),("iftrue",.ref a.if_),("iffalse",.ref a.if_),("ortrue",.ref a.or_),("orfalse",.ref a.or_),("return",.ref a.ret),("raise",.ref a.rais)]
structure z8M (w:World) (K:ky) (mg:Str→Option Value) (a:DAd):Prop where
 deeds:∃d,mg "DEEDS"=some (.ref d)∧KTab w.params K d (Zf a)
 push:mg "do_push"=some (.ref a.push)
 load:mg "do_load"=some (.ref a.load)
 quick:mg "do_quick"=some (.ref a.quick)
 store:mg "do_store"=some (.ref a.store)
 clear:mg "do_clear"=some (.ref a.clear)
 tell:mg "do_tell"=some (.ref a.tell)
 if_:mg "do_if"=some (.ref a.if_)
 or_:mg "do_or"=some (.ref a.or_)
 ret:mg "do_return"=some (.ref a.ret)
 two:mg "do_two"=some (.ref a.two)
 one:mg "do_one"=some (.ref a.one)
 jump:mg "do_jump"=some (.ref a.jump)
 drop:mg "do_drop"=some (.ref a.drop)
 copy:mg "do_copy"=some (.ref a.copy)
 swap:mg "do_swap"=some (.ref a.swap)
 rais:mg "do_raise"=some (.ref a.rais)
noncomputable def z0O:List Str:=["add","sub","mul","div","rest","less","same"]
noncomputable def z16:List Str:=["neg","not"]
noncomputable def rowM:Deed:=fun op arg m=>
 if op∈z0O then gTwo op arg m else if op∈z16 then gOne op arg m else if op="push" then z0C op arg m else if op="load" then z3C op arg m else if op="quick" then JP op arg m else if op="store" then JN op arg m else if op="clear" then JQ op arg m
 else if op="tell" then z0A op arg m else if op="iftrue" then gIf op arg m else if op="iffalse" then gIf op arg m else if op="ortrue" then gOr op arg m else if op="orfalse" then gOr op arg m else if op="return" then jM op arg m else if op="jump" then z4Q op arg m else if op="drop" then z3D op arg m else if op="copy" then z0D op arg m else if op="swap" then z0B op arg m else if op="raise" then JO op arg m else none
section
variable {C:Addr}
theorem z7S:zf ["hold","op","arg","deed"] ["hold","op","arg"] (zb (top 108)):=fsM
theorem z58 {ad:DAd} (D:zk K mg "do_row" (top 108)) (T:z8M w K mg ad) (F1:FN P w K mg base 1 "do_push" ["hold","op","arg"] (zJ K C z0C)) (F2:FN P w K mg base 1 "do_load" ["hold","op","arg"] (zJ K C z3C)) (F3:FN P w K mg base 1 "do_quick" ["hold","op","arg"] (zJ K C JP))
  (F4:FN P w K mg base 1 "do_store" ["hold","op","arg"] (zJ K C JN)) (F5:FN P w K mg base 1 "do_clear" ["hold","op","arg"] (zJ K C JQ)) (F6:FN P w K mg base 1 "do_tell" ["hold","op","arg"] (zJ K C z0A)) (F7:FN P w K mg base 2 "do_if" ["hold","op","arg"] (zJ K C gIf))
  (F8:FN P w K mg base 2 "do_or" ["hold","op","arg"] (zJ K C gOr)) (F9:FN P w K mg base 1 "do_return" ["hold","op","arg"] (zJ K C jM))
  (F10:FN P w K mg base 3 "do_two" ["hold","op","arg"] (zJ K C gTwo)) (F11:FN P w K mg base 3 "do_one" ["hold","op","arg"] (zJ K C gOne)) (F12:FN P w K mg base 1 "do_jump" ["hold","op","arg"] (zJ K C z4Q))
  (F13:FN P w K mg base 1 "do_drop" ["hold","op","arg"] (zJ K C z3D)) (F14:FN P w K mg base 1 "do_copy" ["hold","op","arg"] (zJ K C z0D)) (F15:FN P w K mg base 1 "do_swap" ["hold","op","arg"] (zJ K C z0B)) (F16:FN P w K mg base 4 "do_raise" ["hold","op","arg"] (zJ K C JO)):FN P w K mg base 5 "do_row" ["hold","op","arg"] (zJ K C rowM):=by
 refine FN.o D z7S fun f cdv A outer s H vs Q E hr h=>?_
 obtain ⟨ho,hl,kd,sl,dx,op,arg,m,res,m',rfl,hA,hg,q⟩:=h
 obtain ⟨d,md,td⟩:=T.deeds
 refine ⟨_,z7 (zw (i:=3) z7S.nd rfl (Or.inl rfl) (QZ td rfl md (pv 1) (fun _ _=>rfl))) (ze (zi (J2 (pv 3) (z0 (pv 0) (z0 (pv 1) (z0 (pv 2) z8)))))),?_⟩
 suffices h:∃(g:Deed) (name:Str) (fa:Addr),FN P w K mg base 4 name ["hold","op","arg"] (zJ K C g)∧mg name=some (.ref fa)∧(Zf ad).lookup op=some (.ref fa)∧g op arg m=some (res,m') by
  obtain ⟨g,name,fa,⟨f',fd,a,b,c,d'⟩,e1,e2,e3⟩:=h
  rw [a] at e1
  cases e1
  exact ⟨_,rfl,op,_,rfl,e2,fa,fd,_,_,4,rfl,b,d',hr,c,_,rfl,_,rfl,_,rfl,ho,hl,kd,sl,dx,op,arg,m,res,m',rfl,hA,e3,q⟩
 unfold rowM at hg
 by_cases h1:op∈z0O
 ·rw [kA h1] at hg
  refine ⟨gTwo,_,_,F10.mono (by decide),T.two,?_,hg⟩
  have all:∀o∈z0O,(Zf ad).lookup o=some (.ref ad.two):=by
   intro o ho
   unfold z0O at ho
   simp only [kD,kq,or_false] at ho
   rcases ho with h | h | h | h | h | h | h <;> (rw [h];rfl)
  exact all op h1
 rw [kz h1] at hg
 by_cases h1:op∈z16
 ·rw [kA h1] at hg
  refine ⟨gOne,_,_,F11.mono (by decide),T.one,?_,hg⟩
  have all:∀o∈z16,(Zf ad).lookup o=some (.ref ad.one):=by
   intro o ho
   unfold z16 at ho
   simp only [kD,kq,or_false] at ho
   rcases ho with h | h <;> (rw [h];rfl)
  exact all op h1
 rw [kz h1] at hg
 by_cases h1:op="push"
 ·rw [kA h1] at hg;exact ⟨z0C,_,_,F1.mono (by decide),T.push,by rw [h1];rfl,hg⟩
 rw [kz h1] at hg
 by_cases h1:op="load"
 ·rw [kA h1] at hg;exact ⟨z3C,_,_,F2.mono (by decide),T.load,by rw [h1];rfl,hg⟩
 rw [kz h1] at hg
 by_cases h1:op="quick"
 ·rw [kA h1] at hg;exact ⟨JP,_,_,F3.mono (by decide),T.quick,by rw [h1];rfl,hg⟩
 rw [kz h1] at hg
 by_cases h1:op="store"
 ·rw [kA h1] at hg;exact ⟨JN,_,_,F4.mono (by decide),T.store,by rw [h1];rfl,hg⟩
 rw [kz h1] at hg
 by_cases h1:op="clear"
 ·rw [kA h1] at hg;exact ⟨JQ,_,_,F5.mono (by decide),T.clear,by rw [h1];rfl,hg⟩
 rw [kz h1] at hg
 by_cases h1:op="tell"
 ·rw [kA h1] at hg;exact ⟨z0A,_,_,F6.mono (by decide),T.tell,by rw [h1];rfl,hg⟩
 rw [kz h1] at hg
 by_cases h1:op="iftrue"
 ·rw [kA h1] at hg;exact ⟨gIf,_,_,F7.mono (by decide),T.if_,by rw [h1];rfl,hg⟩
 rw [kz h1] at hg
 by_cases h1:op="iffalse"
 ·rw [kA h1] at hg;exact ⟨gIf,_,_,F7.mono (by decide),T.if_,by rw [h1];rfl,hg⟩
 rw [kz h1] at hg
 by_cases h1:op="ortrue"
 ·rw [kA h1] at hg;exact ⟨gOr,_,_,F8.mono (by decide),T.or_,by rw [h1];rfl,hg⟩
 rw [kz h1] at hg
 by_cases h1:op="orfalse"
 ·rw [kA h1] at hg;exact ⟨gOr,_,_,F8.mono (by decide),T.or_,by rw [h1];rfl,hg⟩
 rw [kz h1] at hg
 by_cases h1:op="return"
 ·rw [kA h1] at hg;exact ⟨jM,_,_,F9.mono (by decide),T.ret,by rw [h1];rfl,hg⟩
 rw [kz h1] at hg
 by_cases h1:op="jump"
 ·rw [kA h1] at hg;exact ⟨z4Q,_,_,F12.mono (by decide),T.jump,by rw [h1];rfl,hg⟩
 rw [kz h1] at hg
 by_cases h1:op="drop"
 ·rw [kA h1] at hg;exact ⟨z3D,_,_,F13.mono (by decide),T.drop,by rw [h1];rfl,hg⟩
 rw [kz h1] at hg
 by_cases h1:op="copy"
 ·rw [kA h1] at hg;exact ⟨z0D,_,_,F14.mono (by decide),T.copy,by rw [h1];rfl,hg⟩
 rw [kz h1] at hg
 by_cases h1:op="swap"
 ·rw [kA h1] at hg;exact ⟨z0B,_,_,F15.mono (by decide),T.swap,by rw [h1];rfl,hg⟩
 rw [kz h1] at hg
 by_cases h1:op="raise"
 ·rw [kA h1] at hg;exact ⟨JO,_,_,F16,T.rais,by rw [h1];rfl,hg⟩
 rw [kz h1] at hg
 cases hg
end
noncomputable def z43 (s:Stmt):List Stmt:=match s with
 | .ClassDef _ _ _ b _ _ _ _ _ _ _=>b
 | _=>[]
noncomputable def mW (i:Nat):Stmt:=(z43 (top 109)).getD i (.Pass ⟨0,0,0,0⟩)
noncomputable def mH (i:Nat):Stmt:=(z43 (top 89)).getD i (.Pass ⟨0,0,0,0⟩)
def MN (P:Program) (w:World) (K:ky) (mg:Str→Option Value) (base:Heap) (k:Nat) (C:Addr) (m:Str) (ps:List Str) (sp:Sp):Prop:=∃f fd,Meth K C m f∧jE K fd ps []∧FnOk P w K mg base CX0 k f fd ps sp
def HasM (K:ky) (C:Addr) (m qual:Str) (st:Stmt):Prop:=∃f fd,Fun K m qual st f fd∧Meth K C m f
def IN (P:Program) (w:World) (K:ky) (mg:Str→Option Value) (base:Heap) (k:Nat) (C:Addr) (ps:List Str) (sp:Sp):Prop:=∃f fd,Mk K C f∧jE K fd ps []∧FnOk P w K mg base CX0 k f fd ps sp
def HasI (K:ky) (C:Addr) (qual:Str) (st:Stmt):Prop:=∃f fd,Fun K "__init__" qual st f fd∧Mk K C f
section
variable {C:Addr}
theorem MN.of {m qual:Str} {st:Stmt} {N ps:List Str} {sp:Sp} {k:Nat} (D:HasM K C m qual st) (S:zf N ps (zb st))
  (hb:∀(kV doc pm:Value) (an:Option Addr) (cdv ct:Value) (us:List Value),us.length=ps.length→bindArgs (PySem.W.fnOf m qual (qd st) (zH st) (zb st) .none kV doc pm an cdv ct) ⟨us,[]⟩=pure (ps.zip us))
  (len:∀vs H Q E,sp vs H Q E→vs.length=ps.length)
  (hbody:∀(f:Addr) (cdv:Value) (A:Around) (outer:List Env) (s:Shared) (H:Hp) (vs:List V) (Q:VK) (E:XK),Room k (A.deeper (envOfC qual (zb st) s.heap.objs.size f cdv))→sp vs H Q E→
   ∃t,PSs (cxOf CX0 P w K mg base N qual (zb st) f cdv A outer s H E).nox (zH st) t∧t { nx:=fun _ H'=>Q .non H',rt:=Q } (L2.jk N vs) H):MN P w K mg base (k+1) C m ps sp:=by
 obtain ⟨f,fd,F,m⟩:=D
 exact ⟨f,fd,m,F.binds hb,F.ok S len (hbody f)⟩
theorem MN.o {m qual:Str} {st:Stmt} {N ps:List Str} {sp:Sp} {k:Nat} (D:HasM K C m qual st) (S:zf N ps (zb st))
  (hbody:∀(f:Addr) (cdv:Value) (A:Around) (outer:List Env) (s:Shared) (H:Hp) (vs:List V) (Q:VK) (E:XK),Room k (A.deeper (envOfC qual (zb st) s.heap.objs.size f cdv))→sp vs H Q E→
   ∃t,PSs (cxOf CX0 P w K mg base N qual (zb st) f cdv A outer s H E).nox (zH st) t∧t { nx:=fun _ H'=>Q .non H',rt:=Q } (L2.jk N vs) H)
  (hb:∀(kV doc pm:Value) (an:Option Addr) (cdv ct:Value) (us:List Value),us.length=ps.length→bindArgs (PySem.W.fnOf m qual (qd st) (zH st) (zb st) .none kV doc pm an cdv ct) ⟨us,[]⟩=pure (ps.zip us):=by (first | exact fun _ _ _ _ _ _=>zU1 fun _=>rfl | exact fun _ _ _ _ _ _=>zU2 fun _ _=>rfl | exact fun _ _ _ _ _ _=>zU3 fun _ _ _=>rfl | exact fun _ _ _ _ _ _=>zU4 fun _ _ _ _=>rfl | exact fun _ _ _ _ _ _=>zU5 fun _ _ _ _ _=>rfl))
  (len:∀vs H Q E,sp vs H Q E→vs.length=ps.length:=by (intro vs H Q E h;repeat (first | (obtain ⟨e,_⟩:=h;subst e;rfl) | (obtain ⟨_,h⟩:=h)))):MN P w K mg base (k+1) C m ps sp:=MN.of D S hb len hbody
theorem IN.of {qual:Str} {st:Stmt} {N ps:List Str} {sp:Sp} {k:Nat} (D:HasI K C qual st) (S:zf N ps (zb st))
  (hb:∀(kV doc pm:Value) (an:Option Addr) (cdv ct:Value) (us:List Value),us.length=ps.length→bindArgs (PySem.W.fnOf "__init__" qual (qd st) (zH st) (zb st) .none kV doc pm an cdv ct) ⟨us,[]⟩=pure (ps.zip us))
  (len:∀vs H Q E,sp vs H Q E→vs.length=ps.length)
  (hbody:∀(f:Addr) (cdv:Value) (A:Around) (outer:List Env) (s:Shared) (H:Hp) (vs:List V) (Q:VK) (E:XK),Room k (A.deeper (envOfC qual (zb st) s.heap.objs.size f cdv))→sp vs H Q E→
   ∃t,PSs (cxOf CX0 P w K mg base N qual (zb st) f cdv A outer s H E).nox (zH st) t∧t { nx:=fun _ H'=>Q .non H',rt:=Q } (L2.jk N vs) H):IN P w K mg base (k+1) C ps sp:=by
 obtain ⟨f,fd,F,m⟩:=D
 exact ⟨f,fd,m,F.binds hb,F.ok S len (hbody f)⟩
theorem IN.o {qual:Str} {st:Stmt} {N ps:List Str} {sp:Sp} {k:Nat} (D:HasI K C qual st) (S:zf N ps (zb st))
  (hbody:∀(f:Addr) (cdv:Value) (A:Around) (outer:List Env) (s:Shared) (H:Hp) (vs:List V) (Q:VK) (E:XK),Room k (A.deeper (envOfC qual (zb st) s.heap.objs.size f cdv))→sp vs H Q E→
   ∃t,PSs (cxOf CX0 P w K mg base N qual (zb st) f cdv A outer s H E).nox (zH st) t∧t { nx:=fun _ H'=>Q .non H',rt:=Q } (L2.jk N vs) H)
  (hb:∀(kV doc pm:Value) (an:Option Addr) (cdv ct:Value) (us:List Value),us.length=ps.length→bindArgs (PySem.W.fnOf "__init__" qual (qd st) (zH st) (zb st) .none kV doc pm an cdv ct) ⟨us,[]⟩=pure (ps.zip us):=by (first | exact fun _ _ _ _ _ _=>zU1 fun _=>rfl | exact fun _ _ _ _ _ _=>zU2 fun _ _=>rfl | exact fun _ _ _ _ _ _=>zU3 fun _ _ _=>rfl | exact fun _ _ _ _ _ _=>zU4 fun _ _ _ _=>rfl | exact fun _ _ _ _ _ _=>zU5 fun _ _ _ _ _=>rfl))
  (len:∀vs H Q E,sp vs H Q E→vs.length=ps.length:=by (intro vs H Q E h;repeat (first | (obtain ⟨e,_⟩:=h;subst e;rfl) | (obtain ⟨_,h⟩:=h)))):IN P w K mg base (k+1) C ps sp:=IN.of D S hb len hbody
end
section
variable {X:Cx} {k:Nat} {C:Addr} {x m:Str} {ps:List Str} {sp:Sp} {p pos apos:Pos} {o e:Expr} {es:List Expr} {ta:TE} {t:TA}
theorem z0q {pl:Sem Bool} (he:PE X o ta) (c:Cls X.K C) (F:MN X.prog X.w X.K X.mg X.base k C m ps sp) (hr:Room k X.A) (ha:PA X (e :: es) t)
  (hst:autoParam (starEach (e :: es) X.env=(false,eval e X.env) :: starEach es X.env) aR._auto_1) (hpl:autoParam ((backTo pos (starEach es X.env)).any (·.1)=false) aR._auto_1)
  (ht:autoParam (eval (.Call (.Attribute o m apos) (e :: es) [] pos) X.env=(do
   let ov ←eval o X.env
   standAt apos.atName
   let (f,first) ←holding [ov] (getMethod ov m pl)
   callWith pos f first (backTo pos (starEach (e :: es) X.env)) (backToKw pos (keywordEach [] X.env)))) aR._auto_1):
  PE X (.Call (.Attribute o m apos) (e :: es) [] pos) (z1u C m sp [] E0 ta t):=by
 obtain ⟨f,fd,hm,hb,F⟩:=F
 exact z6B he c hm F hr hb .nil z1A ha hst hpl ht
theorem z0Z {pl:Sem Bool} (he:PE X o ta) (c:Cls X.K C) (F:MN X.prog X.w X.K X.mg X.base k C m ps sp) (hr:Room k X.A)
  (ht:autoParam (eval (.Call (.Attribute o m apos) [] [] pos) X.env=(do
   let ov ←eval o X.env
   standAt apos.atName
   let (f,first) ←holding [ov] (getMethod ov m pl)
   callWith pos f first (backTo pos (starEach [] X.env)) (backToKw pos (keywordEach [] X.env)))) aR._auto_1):
  PE X (.Call (.Attribute o m apos) [] [] pos) (z1u C m sp [] E0 ta tNil):=by
 obtain ⟨f,fd,hm,hb,F⟩:=F
 exact z4v he c hm F hr hb .nil z1A ht
theorem z84 (F:IN X.prog X.w X.K X.mg X.base k C ps sp) (hr:Room (k+1) X.A) (hg:Gl X x) (hm:X.mg x=some (.ref C)) (ha:PA X (e :: es) t) (hdb:autoParam ((x == ("__debug__":Str))=false) aR._auto_2)
  (he:autoParam (starEach (e :: es) X.env=(false,eval e X.env) :: starEach es X.env) aR._auto_1) (hpl:autoParam ((backTo pos (starEach es X.env)).any (·.1)=false) aR._auto_1):
  PE X (.Call (.Name x p) (e :: es) [] pos) (z7D C sp [] E0 t):=by
 obtain ⟨f,fd,M,hb,F⟩:=F
 exact z6C M F hr hg hm hb .nil z1A ha hdb he hpl
end
section
variable {C:Addr}
theorem z02 {X:Cx}:Zj X (.type "dict") (fun xs H Q=>∃a kvs,xs=[V.ref a]∧Rd H a (.dK kvs)∧∀p,H p=none→Q (.ref p) (upd H p (.dK kvs))):=by
 intro pins s σ H xs us Q I r h
 obtain ⟨a,kvs,rfl,e,q⟩:=h
 obtain ⟨u,rfl,ru⟩:=QR r
 cases ru
 exact z5f I e fun p s' hp I'=>⟨.ref p,_,I',rfl,q p hp⟩
def z5G (C:Addr):Sp:=fun vs H Q _=>∃x d dx kvs,vs=[.ref x,.ref d]∧H x=some (.ins C dx [])∧H d=some (.dK kvs)∧
 ∀hl kd sl H',H hl=none→H kd=none→H sl=none→qx H' C x hl kd sl dx ⟨[],kvs,[]⟩→(∀b o,H b=some o→b≠x→H' b=some o)→Q .non H'
theorem scH:zf ["self","names"] ["self","names"] (zb (mH 0)):=fsM
theorem z6O (D:HasI K C "Hold.__init__" (mH 0)) (c:ja K C) (G:Glo mg):IN P w K mg base 1 C ["self","names"] (z5G C):=by
 refine IN.o D scH fun f cdv A outer s H vs Q E hr h=>?_
 obtain ⟨x,d,dx,kvs,rfl,hx,hd,q⟩:=h
 refine ⟨_,z7 (qM (pv 0) (qv z8) rfl) (z7 (qM (pv 0) (qW z02 rfl G.dict z04 (z0 (pv 1) z8)) rfl) (ze (qM (pv 0) (qv z8) rfl))),?_⟩
 refine ⟨by show 0≤sizeLine;decide,fun hl hhl=>?_⟩
 have nxl:x≠hl:=zc hx hhl
 have ndl:d≠hl:=zc hd hhl
 have ndx:d≠x:=zA hd hx nofun
 refine ⟨_,rfl,x,C,dx,[],rfl,by rw [zd nxl];exact hx,c.cl,c.held,by decide,?_⟩
 refine ⟨_,rfl,d,kvs,rfl,.inl (by rw [zd ndx,zd ndl];exact hd),fun kd hkd=>?_⟩
 have nkx:kd≠x:=fun z=>by rw [z,z6] at hkd;cases hkd
 have hkd1:(upd H hl (.lst [])) kd=none:=by rw [zd nkx] at hkd;exact hkd
 have nkl:kd≠hl:=fun z=>by rw [z,z6] at hkd1;cases hkd1
 have hkd0:H kd=none:=by rw [zd nkl] at hkd1;exact hkd1
 refine ⟨_,rfl,x,C,dx,_,rfl,by rw [zd nkx.symm];exact z6,c.cl,c.known,(by show 1 < 1000;decide),?_⟩
 refine ⟨by show 0≤sizeLine;decide,fun sl hsl=>?_⟩
 have nsx:sl≠x:=fun z=>by rw [z,z6] at hsl;cases hsl
 have hsl1:=hsl
 rw [zd nsx] at hsl1
 have nsk:sl≠kd:=fun z=>by rw [z,z6] at hsl1;cases hsl1
 rw [zd nsk,zd nsx] at hsl1
 have nsl:sl≠hl:=fun z=>by rw [z,z6] at hsl1;cases hsl1
 rw [zd nsl] at hsl1
 refine ⟨_,rfl,x,C,dx,_,rfl,by rw [zd nsx.symm];exact z6,c.cl,c.said,(by show 2 < 1000;decide),?_⟩
 refine q hl kd sl _ hhl hkd0 hsl1 ⟨z6,?_,?_,?_,nsl.symm⟩ fun b o e hb=>?_
 ·rw [zd nxl.symm,zd nsl.symm,zd nxl.symm,zd nkl.symm,zd nxl.symm];exact z6
 ·rw [zd nkx,zd nsk.symm,zd nkx];exact z6
 ·rw [zd nsx];exact z6
 ·rw [zd hb,zd (zc e hsl1),zd hb,zd (zc e hkd0),zd hb,zd (zc e hhl)];exact e
end
structure Qp (K:ky) (C:Addr):Prop where
 cl:Cls K C
 rows:qQ K C "rows"
 goals:qQ K C "goals"
 hold:qQ K C "hold"
 wards:qQ K C "wards"
 passed:qQ K C "passed"
 ending:qQ K C "ending"
 here:qQ K C "here"
structure WAd where
 (wk dw rl gd ho wl pl hl kd sl dx:Addr)
noncomputable def z1Q:Option Nat→V
 | none=>.non
 | some p=>.int (p:Nat)
noncomputable def wfs (a:WAd) (ea:V) (here:V):List (Str × V):=[("rows",.ref a.rl),("goals",.ref a.gd),("hold",.ref a.ho),("wards",.ref a.wl),("passed",.ref a.pl),("ending",ea),("here",here)]
structure zL (K:ky) (H0 H:Hp) (CW CH:Addr) (a:WAd) (rs:List Row) (m:Mst) (gs:List Gd) (pas:List Nat) (e:List V) (here:Option Nat):Prop where
 same:Same H0 H
 f1:H0 a.wk=none
 f2:H0 a.pl=none
 f3:H0 a.hl=none
 f4:H0 a.kd=none
 f5:H0 a.sl=none
 f6:H0 a.wl=none
 f7:H0 a.ho=none
 ins:∃ea,H a.wk=some (.ins CW a.dw (wfs a (.ref ea) (z1Q here)))∧SqT K H ea e
 rows:∃as,H a.rl=some (.lst (as.map V.ref))∧zr H as rs
 goals:∃kvs,H a.gd=some (.dK kvs)∧Zz kvs rs
 hold:qx H CH a.ho a.hl a.kd a.sl a.dx m
 wards:∃gas,H a.wl=some (.lst (gas.map V.ref))∧GsIn H gas gs
 passed:H a.pl=some (.lst (pas.map fun p=>V.int (p:Nat)))
 n1:a.rl≠a.hl
 n2:a.rl≠a.sl
 n3:a.rl≠a.pl
 n4:a.wl≠a.hl
 n5:a.wl≠a.sl
 n6:a.wl≠a.pl
 n7:a.pl≠a.hl
 n8:a.pl≠a.sl
 n9:a.gd≠a.kd
 n10:a.wk≠a.ho
 n11:a.rl≠a.wl
section
variable {K:ky} {H0 H H':Hp} {CW CH:Addr} {a:WAd} {rs:List Row} {m m':Mst} {gs gs':List Gd} {pas:List Nat} {e e':List V} {here here':Option Nat}
theorem zL.same' (W:zL K H0 H CW CH a rs m gs pas e here) (s:Same H H'):zL K H0 H' CW CH a rs m gs pas e here:=by
 obtain ⟨ea,i1,i2⟩:=W.ins
 obtain ⟨as,r1,r2⟩:=W.rows
 obtain ⟨kv,g1,g2⟩:=W.goals
 obtain ⟨gas,w1,w2⟩:=W.wards
 exact ⟨W.same.trans s,W.f1,W.f2,W.f3,W.f4,W.f5,W.f6,W.f7,⟨ea,s _ _ i1,qa s i2⟩,⟨as,s _ _ r1,r2.same s⟩,⟨kv,s _ _ g1,g2⟩,W.hold.same s,⟨gas,s _ _ w1,w2.keep (zY.of s)⟩,s _ _ W.passed,W.n1,W.n2,W.n3,W.n4,W.n5,W.n6,W.n7,W.n8,W.n9,W.n10,W.n11⟩
theorem zL.fields (W:zL K H0 H CW CH a rs m gs pas e here) {ea:Addr} (he:SqT K H ea e'):zL K H0 (upd H a.wk (.ins CW a.dw (wfs a (.ref ea) (z1Q here')))) CW CH a rs m gs pas e' here':=by
 obtain ⟨ea0,i1,i2⟩:=W.ins
 obtain ⟨as,r1,r2⟩:=W.rows
 obtain ⟨kv,g1,g2⟩:=W.goals
 obtain ⟨gas,w1,w2⟩:=W.wards
 have kt:=zY.upd (o:=.ins CW a.dw (wfs a (.ref ea) (z1Q here'))) i1 rfl
 refine ⟨fun b o h=>by rw [zd (zc h W.f1)];exact W.same _ _ h,W.f1,W.f2,W.f3,W.f4,W.f5,W.f6,W.f7,⟨ea,z6,qD kt he⟩,⟨as,by rw [zd (zA r1 i1 nofun)];exact r1,r2.keep fun b xs h=>kt _ _ h rfl⟩,
  ⟨kv,by rw [zd (zA g1 i1 nofun)];exact g1,g2⟩,⟨by rw [zd W.n10.symm];exact W.hold.ins,by rw [zd (zA W.hold.held i1 nofun)];exact W.hold.held,by rw [zd (zA W.hold.known i1 nofun)];exact W.hold.known,by rw [zd (zA W.hold.said i1 nofun)];exact W.hold.said,W.hold.ne⟩,
  ⟨gas,by rw [zd (zA w1 i1 nofun)];exact w1,w2.keep kt⟩,by rw [zd (zA W.passed i1 nofun)];exact W.passed,W.n1,W.n2,W.n3,W.n4,W.n5,W.n6,W.n7,W.n8,W.n9,W.n10,W.n11⟩
theorem zL.pass (W:zL K H0 H CW CH a rs m gs pas e here) (p:Nat):zL K H0 (upd H a.pl (.lst ((pas.map fun p=>V.int (p:Nat))++[.int (p:Nat)]))) CW CH a rs m gs (pas++[p]) e here:=by
 obtain ⟨ea,i1,i2⟩:=W.ins
 obtain ⟨as,r1,r2⟩:=W.rows
 obtain ⟨kv,g1,g2⟩:=W.goals
 obtain ⟨gas,w1,w2⟩:=W.wards
 have kt:=zY.upd (o:=.lst ((pas.map fun p=>V.int (p:Nat))++[.int (p:Nat)])) W.passed rfl
 refine ⟨fun b o h=>by rw [zd (zc h W.f2)];exact W.same _ _ h,W.f1,W.f2,W.f3,W.f4,W.f5,W.f6,W.f7,⟨ea,by rw [zd (zA i1 W.passed nofun)];exact i1,qD kt i2⟩,⟨as,by rw [zd W.n3];exact r1,r2.keep fun b xs h=>kt _ _ h rfl⟩,
  ⟨kv,by rw [zd (zA g1 W.passed nofun)];exact g1,g2⟩,⟨by rw [zd (zA W.hold.ins W.passed nofun)];exact W.hold.ins,by rw [zd W.n7.symm];exact W.hold.held,by rw [zd (zA W.hold.known W.passed nofun)];exact W.hold.known,by rw [zd W.n8.symm];exact W.hold.said,W.hold.ne⟩,
  ⟨gas,by rw [zd W.n6];exact w1,w2.keep kt⟩,by rw [z6,kJ];rfl,W.n1,W.n2,W.n3,W.n4,W.n5,W.n6,W.n7,W.n8,W.n9,W.n10,W.n11⟩
theorem zL.deed (W:zL K H0 H CW CH a rs m gs pas e here) (hA:qx H' CH a.ho a.hl a.kd a.sl a.dx m') (r:zT H H' a.hl a.kd a.sl):zL K H0 H' CW CH a rs m' gs pas e here:=by
 obtain ⟨ea,i1,i2⟩:=W.ins
 obtain ⟨as,r1,r2⟩:=W.rows
 obtain ⟨kv,g1,g2⟩:=W.goals
 obtain ⟨gas,w1,w2⟩:=W.wards
 have kt:zY H H':=fun b o h t=>r b o h (fun z=>by rw [z,W.hold.held] at h;cases h;cases t) (fun z=>by rw [z,W.hold.known] at h;cases h;cases t) (fun z=>by rw [z,W.hold.said] at h;cases h;cases t)
 refine ⟨fun b o h=>r b o (W.same _ _ h) (zc h W.f3) (zc h W.f4) (zc h W.f5),W.f1,W.f2,W.f3,W.f4,W.f5,W.f6,W.f7,
  ⟨ea,r _ _ i1 (zA i1 W.hold.held nofun) (zA i1 W.hold.known nofun) (zA i1 W.hold.said nofun),qD kt i2⟩,⟨as,r _ _ r1 W.n1 (zA r1 W.hold.known nofun) W.n2,r2.keep fun b xs h=>kt _ _ h rfl⟩,
  ⟨kv,r _ _ g1 (zA g1 W.hold.held nofun) W.n9 (zA g1 W.hold.said nofun),g2⟩,hA,⟨gas,r _ _ w1 W.n4 (zA w1 W.hold.known nofun) W.n5,w2.keep kt⟩,r _ _ W.passed W.n7 (zA W.passed W.hold.known nofun) W.n8,
  W.n1,W.n2,W.n3,W.n4,W.n5,W.n6,W.n7,W.n8,W.n9,W.n10,W.n11⟩
theorem zL.ward (W:zL K H0 H CW CH a rs m gs pas e here) (k:jh H H' a.wl) {gas':List Addr} (h1:H' a.wl=some (.lst (gas'.map V.ref))) (h2:GsIn H' gas' gs'):zL K H0 H' CW CH a rs m gs' pas e here:=by
 obtain ⟨ea,i1,i2⟩:=W.ins
 obtain ⟨as,r1,r2⟩:=W.rows
 obtain ⟨kv,g1,g2⟩:=W.goals
 obtain ⟨gas,w1,w2⟩:=W.wards
 have kt:zY H H':=fun b o h t=>k b o h (fun z=>by rw [z,w1] at h;cases h;cases t)
 exact ⟨fun b o h=>k b o (W.same _ _ h) (zc h W.f6),W.f1,W.f2,W.f3,W.f4,W.f5,W.f6,W.f7,⟨ea,k _ _ i1 (zA i1 w1 nofun),qD kt i2⟩,⟨as,k _ _ r1 W.n11,r2.keep fun b xs h=>kt _ _ h rfl⟩,
  ⟨kv,k _ _ g1 (zA g1 w1 nofun),g2⟩,⟨k _ _ W.hold.ins (zA W.hold.ins w1 nofun),k _ _ W.hold.held W.n4.symm,k _ _ W.hold.known (zA W.hold.known w1 nofun),k _ _ W.hold.said W.n5.symm,W.hold.ne⟩,⟨gas',h1,h2⟩,k _ _ W.passed W.n6.symm,
  W.n1,W.n2,W.n3,W.n4,W.n5,W.n6,W.n7,W.n8,W.n9,W.n10,W.n11⟩
theorem zL.stack (W:zL K H0 H CW CH a rs m gs pas e here) {p:Addr} {xs:List V} (hp:H p=some (.lst xs)) (fp:H0 p=none) (q1:a.rl≠p) (q2:a.wl≠p) (q3:a.pl≠p) (q4:p≠a.sl):
  zL K H0 (upd H a.ho (.ins CH a.dx [("held",.ref p),("known",.ref a.kd),("said",.ref a.sl)])) CW CH { a with hl:=p } rs { m with st:=xs } gs pas e here:=by
 obtain ⟨ea,i1,i2⟩:=W.ins
 obtain ⟨as,r1,r2⟩:=W.rows
 obtain ⟨kv,g1,g2⟩:=W.goals
 obtain ⟨gas,w1,w2⟩:=W.wards
 have kt:=zY.upd (o:=.ins CH a.dx [("held",.ref p),("known",.ref a.kd),("said",.ref a.sl)]) W.hold.ins rfl
 exact ⟨fun b o h=>by rw [zd (zc h W.f7)];exact W.same _ _ h,W.f1,W.f2,fp,W.f4,W.f5,W.f6,W.f7,⟨ea,by rw [zd W.n10];exact i1,qD kt i2⟩,⟨as,by rw [zd (zA r1 W.hold.ins nofun)];exact r1,r2.keep fun b xs h=>kt _ _ h rfl⟩,
  ⟨kv,by rw [zd (zA g1 W.hold.ins nofun)];exact g1,g2⟩,⟨z6,by rw [zd (zA hp W.hold.ins nofun)];exact hp,by rw [zd (zA W.hold.known W.hold.ins nofun)];exact W.hold.known,by rw [zd (zA W.hold.said W.hold.ins nofun)];exact W.hold.said,q4⟩,
  ⟨gas,by rw [zd (zA w1 W.hold.ins nofun)];exact w1,w2.keep kt⟩,by rw [zd (zA W.passed W.hold.ins nofun)];exact W.passed,q1,W.n2,W.n3,q2,W.n5,W.n6,q3,W.n8,W.n9,W.n10,W.n11⟩
end
noncomputable def j3 (rs:List Row) (d:Nat):Nat→Nat→List Gd→Option (Nat × List Gd)
 | 0,_,_=>none
 | n+1,p,gs=>match rs[p]? with
  | some r=>if r.op="label" then j3 rs d n (p+1) gs
   else if r.op="try" then (match r.arg with | .int k=>if qp gs.length=true then j3 rs d n (p+1) (gs++[(k,(d:Int))]) else none | _=>none)
   else if r.op="endtry" then (if gs=[] then none else j3 rs d n (p+1) gs.dropLast)
   else some (p,gs)
  | none=>none
noncomputable def jW:List Str:=["label","try","endtry"]
section
variable {CW CH:Addr}
def Jo (K:ky) (CW CH:Addr):Sp:=fun vs H Q _=>∃(wk dw rl wl ho dx hl:Addr) (fs hfs:List (Str × V)) (as gas:List Addr) (rs:List Row) (st:List V) (gs:List Gd) (p n p':Nat) (gs':List Gd),vs=[.ref wk,.int (p:Nat)]∧H wk=some (.ins CW dw fs)∧fs.lookup ("rows":Str)=some (V.ref rl)∧fs.lookup ("wards":Str)=some (V.ref wl)∧fs.lookup ("hold":Str)=some (V.ref ho)∧
 H ho=some (.ins CH dx hfs)∧hfs.lookup ("held":Str)=some (V.ref hl)∧H hl=some (.lst st)∧H rl=some (.lst (as.map V.ref))∧zr H as rs∧H wl=some (.lst (gas.map V.ref))∧GsIn H gas gs∧rl≠wl∧hl≠wl∧j3 rs st.length n p gs=some (p',gs')∧
 ∀gas' H',jh H H' wl→H' wl=some (.lst (gas'.map V.ref))→GsIn H' gas' gs'→Q (.int (p':Nat)) H'
theorem scW1:zf ["self","place","op","arg"] ["self","place"] (zb (mW 1)):=fsM
theorem z5Z {H:Hp} {gas:List Addr} {gs:List Gd} (h:GsIn H gas gs) (hne:gs≠[]):∃bs a g,gas=bs++[a]∧gs.getLast?=some g∧GsIn H bs gs.dropLast∧H a=some (.tup [.int g.1,.int g.2]):=by
 rcases h.last with ⟨_,e2⟩ | ⟨bs,a,g,e1,e2,e3⟩
 ·exact absurd e2 hne
 ·have hd:=h.dropLast
  rw [e1,List.dropLast_concat] at hd
  exact ⟨bs,a,g,e1,e2,hd,e3⟩
theorem z8i (D:HasM K CW "come_to" "Walk.come_to" (mW 1)) (c:Qp K CW) (ch:ja K CH) (G:Glo mg):MN P w K mg base 1 CW "come_to" ["self","place"] (Jo K CW CH):=by
 refine MN.o D scW1 fun f cdv A outer s H vs Q E hr h=>?_
 obtain ⟨wk,dw,rl,wl,ho,dx,hl,fs,hfs,as,gas,rs,st,gs,p,n,p',gs',rfl,i1,fr,fw,fh,j1,fl,hst,r1,r2,w1,w2,nrw,nlw,hcm,q⟩:=h
 refine ⟨_,z7 (Jv (i:=2) (j:=3) rfl scW1.nd rfl rfl (by decide) rfl rfl (z0 (zD zU (zD zG (zB (pv 0) rfl) (pv 1) (fun _ _=>rfl)) zh (fun _ _=>rfl)) (z0 (zD zU (zD zG (zB (pv 0) rfl) (pv 1) (fun _ _=>rfl)) zh (fun _ _=>rfl)) z8)) rfl)
  (z7 (ZO PassesOwn.never (zl qX (pv 2) (zI (z0 zx (z0 zx (z0 zx z8)))) rfl)
   (z7 (zQ (zl qz (pv 2) zx (zo _)) (ze (zy (je (zB (pv 0) rfl) (z0 (zI (z0 (pv 3) (z0 (zq zu rfl G.len zK (z0 (zB (zB (pv 0) rfl) rfl) z8)) z8))) z8))))
    (ze (zQ (zl qz (pv 2) zx (zo _)) (ze (zy (jq (zB (pv 0) rfl)))) zt)))
   (z7 (z7Y (i:=1) scW1.nd rfl (Or.inl rfl) zh z8p)
   (ze (Jv (i:=2) (j:=3) rfl scW1.nd rfl rfl (by decide) rfl rfl (z0 (zD zU (zD zG (zB (pv 0) rfl) (pv 1) (fun _ _=>rfl)) zh (fun _ _=>rfl)) (z0 (zD zU (zD zG (zB (pv 0) rfl) (pv 1) (fun _ _=>rfl)) zh (fun _ _=>rfl)) z8)) rfl)))))
  (ze (zi (pv 1)))),?_⟩
 have row:∀{p n gs p' gs'} {H2:Hp},j3 rs st.length n p gs=some (p',gs')→jh H H2 wl→∃r ra,rs[p]?=some r∧(as.map V.ref)[p]?=some (V.ref ra)∧H2 ra=some (.tup (tupV r)):=fun {p n gs p' gs' H2} h k2=>by
  cases n with
  | zero=>cases h
  | succ n=>
   unfold j3 at h
   cases hr:rs[p]? with
   | none=>rw [hr] at h;cases h
   | some r=>
    obtain ⟨ra,e1,e2⟩:=r2.get' hr
    exact ⟨r,ra,rfl,e1,k2 _ _ e2 (zA e2 w1 nofun)⟩
 obtain ⟨r,ra,hrp,hra,har⟩:=row hcm (fun _ _ e _=>e)
 refine ⟨_,rfl,wk,CW,dw,_,.ref rl,rfl,i1,c.cl,c.rows,fr,_,rfl,rl,_,_,_,rfl,rfl,SqL.of r1,zj hra,ra,_,_,_,rfl,rfl,SqT.of har,zj (j:=0) rfl,
  _,rfl,wk,CW,dw,_,.ref rl,rfl,i1,c.cl,c.rows,fr,_,rfl,rl,_,_,_,rfl,rfl,SqL.of r1,zj hra,ra,_,_,_,rfl,rfl,SqT.of har,zj (j:=1) rfl,_,_,rfl,?_⟩
 refine ⟨fun k σ H2=>∃p r gs gas,σ=[some (.ref wk),some (.int (p:Nat)),some (.str r.op),some r.arg]∧j3 rs st.length k p gs=some (p',gs')∧rs[p]?=some r∧jh H H2 wl∧H2 wl=some (.lst (gas.map V.ref))∧GsIn H2 gas gs,⟨n,p,r,gs,gas,rfl,hcm,hrp,fun _ _ e _=>e,w1,w2⟩,?_⟩
 clear hrp hra har hcm w2
 rintro k σ H2 ⟨p,r,gs,gas2,rfl,hcm,hrp,k2,v1,v2⟩
 refine ⟨_,rfl,by show 3≤sizeLine;decide,fun t ht=>?_⟩
 have s3:=zg ht (.tup [.str "label",.str "try",.str "endtry"])
 have k3:jh H (upd H2 t (.tup [.str "label",.str "try",.str "endtry"])) wl:=fun b o e h=>s3 _ _ (k2 b o e h)
 have v1':=s3 _ _ v1
 have v2':=v2.same s3
 refine ⟨t,_,rfl,.inr (SqT.of z6),rfl,rfl,inT r.op jW,rfl,?_⟩
 generalize upd H2 t (.tup [.str "label",.str "try",.str "endtry"])=H3 at *
 clear s3 k2 v1 v2 ht
 cases k with
 | zero=>cases hcm
 | succ k=>
  unfold j3 at hcm
  rw [hrp] at hcm
  dsimp only at hcm
  refine ite2 (fun cc=>?_) (fun cc=>?_)
  ·have cc:inT r.op jW=true:=cc
   rw [Zt] at cc
   refine ⟨fun σ' H'=>∃p r gs gas,σ'=[some (.ref wk),some (.int (p:Nat)),some (.str r.op),some r.arg]∧j3 rs st.length k p gs=some (p',gs')∧rs[p]?=some r∧jh H H' wl∧H' wl=some (.lst (gas.map V.ref))∧GsIn H' gas gs,fun σ' H' h=>⟨k,ya _,h⟩,?_⟩
   have i1':=k3 _ _ i1 (zA i1 w1 nofun)
   have j1':=k3 _ _ j1 (zA j1 w1 nofun)
   have hst':=k3 _ _ hst nlw
   have read:∀{gs2:List Gd} {gas3:List Addr} {H4:Hp},j3 rs st.length k (p+1) gs2=some (p',gs')→jh H H4 wl→H4 wl=some (.lst (gas3.map V.ref))→GsIn H4 gas3 gs2→
     ∃r' ra',rs[p+1]?=some r'∧(as.map V.ref)[p+1]?=some (V.ref ra')∧H4 ra'=some (.tup (tupV r'))∧H4 wk=some (.ins CW dw fs)∧H4 rl=some (.lst (as.map V.ref)):=fun h k4 _ _=>by
    obtain ⟨r',ra',a1,a2,a3⟩:=row h k4
    exact ⟨r',ra',a1,a2,a3,k4 _ _ i1 (zA i1 w1 nofun),k4 _ _ r1 nrw⟩
   refine ⟨_,rfl,rfl,decide (r.op="try"),congrArg V.bl jN,?_⟩
   by_cases h2:r.op="try"
   ·have n1:¬r.op="label":=by rw [h2];decide+kernel
    rw [kz n1,kA h2] at hcm
    rw [ki h2]
    cases ha:r.arg with
    | int mk=>
     rw [ha] at hcm
     dsimp only at hcm
     by_cases hz:qp gs.length=true
     case neg=>rw [kz hz] at hcm;cases hcm
     rw [kA hz] at hcm
     refine iteT ⟨_,rfl,wk,CW,dw,_,.ref wl,rfl,i1',c.cl,c.wards,fw,.inl ⟨rfl,_,SqL.of v1'⟩,_,rfl,_,rfl,wk,CW,dw,_,.ref ho,rfl,i1',c.cl,c.hold,fh,ho,CH,dx,_,.ref hl,rfl,j1',ch.cl,ch.held,fl,hl,_,rfl,.inl (SqL.of hst'),by show 2≤sizeLine;decide,fun ga hga=>?_⟩
     have sg:=zg hga (.tup [.int mk,.int (st.length:Nat)])
     have hgl:gas2.length=gs.length:=v2'.length
     refine ⟨wl,_,_,rfl,rfl,sg _ _ v1',by rw [kj,hgl];exact qR hz,?_⟩
     have k4:jh H (upd (upd H3 ga (.tup [.int mk,.int (st.length:Nat)])) wl (.lst (gas2.map V.ref++[.ref ga]))) wl:=fun b o e h=>by rw [zd h];exact sg _ _ (k3 b o e h)
     have v3:(upd (upd H3 ga (.tup [.int mk,.int (st.length:Nat)])) wl (.lst (gas2.map V.ref++[.ref ga]))) wl=some (.lst ((gas2++[ga]).map V.ref)):=by rw [z6,kJ];rfl
     have v4:GsIn (upd (upd H3 ga (.tup [.int mk,.int (st.length:Nat)])) wl (.lst (gas2.map V.ref++[.ref ga]))) (gas2++[ga]) (gs++[(mk,(st.length:Int))]):=by
      have kt:zY (upd H3 ga (.tup [.int mk,.int (st.length:Nat)])) (upd (upd H3 ga (.tup [.int mk,.int (st.length:Nat)])) wl (.lst (gas2.map V.ref++[.ref ga]))):=zY.upd (sg _ _ v1') rfl
      exact ((v2'.same sg).append (.cons z6 .nil)).keep kt
     generalize upd (upd H3 ga (.tup [.int mk,.int (st.length:Nat)])) wl (.lst (gas2.map V.ref++[.ref ga]))=H4 at *
     obtain ⟨r',ra',hrp',hra',har',i4,l4⟩:=read hcm k4 v3 v4
     refine ⟨_,rfl,_,_,rfl,rfl,?_⟩
     refine ⟨_,rfl,wk,CW,dw,_,.ref rl,rfl,i4,c.cl,c.rows,fr,_,rfl,rl,_,_,_,rfl,rfl,SqL.of l4,zj hra',ra',_,_,_,rfl,rfl,SqT.of har',zj (j:=0) rfl,
      _,rfl,wk,CW,dw,_,.ref rl,rfl,i4,c.cl,c.rows,fr,_,rfl,rl,_,_,_,rfl,rfl,SqL.of l4,zj hra',ra',_,_,_,rfl,rfl,SqT.of har',zj (j:=1) rfl,_,_,rfl,?_⟩
     exact ⟨p+1,r',_,_,rfl,hcm,hrp',k4,v3,v4⟩
    | _=>rw [ha] at hcm;cases hcm
   ·rw [kh h2]
    refine iteF ⟨_,rfl,rfl,decide (r.op="endtry"),congrArg V.bl jN,?_⟩
    by_cases h3:r.op="endtry"
    ·have n1:¬r.op="label":=by rw [h3];decide+kernel
     rw [kz n1,kz h2,kA h3] at hcm
     rw [ki h3]
     by_cases hg:gs=[]
     ·rw [kA hg] at hcm;cases hcm
     rw [kz hg] at hcm
     obtain ⟨bs,ga,g,e1,e2,e3,e4⟩:=z5Z v2' hg
     subst e1
     have hlast:((bs++[ga]).map V.ref)[((bs++[ga]).map V.ref).length - 1]?=some (V.ref ga):=by rw [←List.getLast?_eq_getElem?,kJ];simp
     refine iteT ⟨_,rfl,wk,CW,dw,_,.ref wl,rfl,i1',c.cl,c.wards,fw,.inl ⟨rfl,_,SqL.of v1'⟩,wl,_,_,rfl,rfl,v1',hlast,?_⟩
     have ed:((bs++[ga]).map V.ref).dropLast=bs.map V.ref:=by rw [kJ];simp
     rw [ed]
     have k4:jh H (upd H3 wl (.lst (bs.map V.ref))) wl:=fun b o e h=>by rw [zd h];exact k3 b o e h
     have v3:(upd H3 wl (.lst (bs.map V.ref))) wl=some (.lst (bs.map V.ref)):=z6
     have v4:GsIn (upd H3 wl (.lst (bs.map V.ref))) bs gs.dropLast:=e3.keep (zY.upd v1' rfl)
     generalize upd H3 wl (.lst (bs.map V.ref))=H4 at *
     obtain ⟨r',ra',hrp',hra',har',i4,l4⟩:=read hcm k4 v3 v4
     refine ⟨_,rfl,_,_,rfl,rfl,?_⟩
     refine ⟨_,rfl,wk,CW,dw,_,.ref rl,rfl,i4,c.cl,c.rows,fr,_,rfl,rl,_,_,_,rfl,rfl,SqL.of l4,zj hra',ra',_,_,_,rfl,rfl,SqT.of har',zj (j:=0) rfl,
      _,rfl,wk,CW,dw,_,.ref rl,rfl,i4,c.cl,c.rows,fr,_,rfl,rl,_,_,_,rfl,rfl,SqL.of l4,zj hra',ra',_,_,_,rfl,rfl,SqT.of har',zj (j:=1) rfl,_,_,rfl,?_⟩
     exact ⟨p+1,r',_,_,rfl,hcm,hrp',k4,v3,v4⟩
    ·have h1:r.op="label":=by
      rcases kD.mp cc with z | z
      ·exact z
      ·rcases kD.mp z with z | z
       ·exact absurd z h2
       ·exact absurd (ko.mp z) h3
     rw [kA h1] at hcm
     rw [kh h3]
     obtain ⟨r',ra',hrp',hra',har',i4,l4⟩:=read hcm k3 v1' v2'
     refine iteF ⟨_,rfl,_,_,rfl,rfl,?_⟩
     refine ⟨_,rfl,wk,CW,dw,_,.ref rl,rfl,i4,c.cl,c.rows,fr,_,rfl,rl,_,_,_,rfl,rfl,SqL.of l4,zj hra',ra',_,_,_,rfl,rfl,SqT.of har',zj (j:=0) rfl,
      _,rfl,wk,CW,dw,_,.ref rl,rfl,i4,c.cl,c.rows,fr,_,rfl,rl,_,_,_,rfl,rfl,SqL.of l4,zj hra',ra',_,_,_,rfl,rfl,SqT.of har',zj (j:=1) rfl,_,_,rfl,?_⟩
     exact ⟨p+1,r',_,_,rfl,hcm,hrp',k3,v1',v2'⟩
  ·have cc:¬inT r.op jW=true:=cc
   rw [Zt] at cc
   have h1:¬r.op="label":=fun z=>cc (by rw [z];decide+kernel)
   have h2:¬r.op="try":=fun z=>cc (by rw [z];decide+kernel)
   have h3:¬r.op="endtry":=fun z=>cc (by rw [z];decide+kernel)
   rw [kz h1,kz h2,kz h3] at hcm
   cases hcm
   exact ⟨_,rfl,q _ _ k3 v1' v2'⟩
end
section
variable {CW CH:Addr}
theorem zL.come {H0 H:Hp} {a:WAd} {rs:List Row} {m:Mst} {gs gs':List Gd} {pas:List Nat} {e:List V} {here:Option Nat} {n p p':Nat} {Q:VK} {E:XK} (W:zL K H0 H CW CH a rs m gs pas e here) (hcm:j3 rs m.st.length n p gs=some (p',gs'))
  (q:∀H',zL K H0 H' CW CH a rs m gs' pas e here→Q (.int (p':Nat)) H'):Jo K CW CH [.ref a.wk,.int (p:Nat)] H Q E:=by
 obtain ⟨ea,i1,i2⟩:=W.ins
 obtain ⟨as,r1,r2⟩:=W.rows
 obtain ⟨gas,w1,w2⟩:=W.wards
 exact ⟨a.wk,a.dw,a.rl,a.wl,a.ho,a.dx,a.hl,_,_,as,gas,rs,m.st,gs,p,n,p',gs',rfl,i1,rfl,rfl,rfl,W.hold.ins,rfl,W.hold.held,r1,r2,w1,w2,W.n11,W.n4.symm,hcm,fun gas' H' k h1 h2=>q H' (W.ward k h1 h2)⟩
def z6p (K:ky) (CW CH:Addr):Sp:=fun vs H Q _=>∃(a:WAd) (H0:Hp) (rs:List Row) (m:Mst) (gs:List Gd) (pas:List Nat) (e:List V) (here:Option Nat) (ea:Addr) (e':List V),vs=[.ref a.wk,.ref ea]∧zL K H0 H CW CH a rs m gs pas e here∧SqT K H ea e'∧∀H',zL K H0 H' CW CH a rs m gs pas e' none→Q .non H'
theorem scW2:zf ["self","ending"] ["self","ending"] (zb (mW 2)):=fsM
theorem z9r (D:HasM K CW "finish" "Walk.finish" (mW 2)) (c:Qp K CW):MN P w K mg base 1 CW "finish" ["self","ending"] (z6p K CW CH):=by
 refine MN.o D scW2 fun f cdv A outer s H vs Q E hr h=>?_
 obtain ⟨a,H0,rs,m,gs,pas,e,here,ea,e',rfl,W,he,q⟩:=h
 obtain ⟨ea0,i1,i2⟩:=W.ins
 refine ⟨_,z7 (qM (pv 0) zR rfl) (ze (qM (pv 0) (pv 1) rfl)),?_⟩
 refine ⟨_,rfl,a.wk,CW,a.dw,_,rfl,i1,c.cl,c.here,(by show 7 < 1000;decide),?_⟩
 have W1:=W.fields (here':=none) i2
 have kt:=zY.upd (o:=.ins CW a.dw (wfs a (.ref ea0) (z1Q none))) i1 rfl
 refine ⟨_,rfl,_,rfl,a.wk,CW,a.dw,wfs a (.ref ea0) (z1Q none),rfl,z6,c.cl,c.ending,(by show 7 < 1000;decide),?_⟩
 exact q _ (W1.fields (here':=none) (qD kt he))
noncomputable def z4f (rs:List Row) (m:Mst) (gs:List Gd) (e:List V) (kind:Str) (line:Int):Option (Mst × List Gd × List V × Option Nat):=match gs.getLast? with
 | none=>some (m,gs,[.str "fault",.str kind,.int line],none)
 | some g=>if qp m.st.length=true then (match zF rs g.1 with
  | some j=>(match j3 rs (cutV m.st none (some g.2)++[V.str kind]).length 200 j gs.dropLast with
   | some (p',gs')=>some ({ m with st:=cutV m.st none (some g.2)++[V.str kind] },gs',e,some p')
   | none=>none)
  | none=>none) else none
def z5B (K:ky) (CW CH:Addr):Sp:=fun vs H Q _=>∃(a:WAd) (H0:Hp) (rs:List Row) (m:Mst) (gs:List Gd) (pas:List Nat) (e:List V) (here:Option Nat) (kind:Str) (line:Int) (m':Mst) (gs':List Gd) (e':List V) (here':Option Nat),vs=[.ref a.wk,.str kind,.int line]∧zL K H0 H CW CH a rs m gs pas e here∧z4f rs m gs e kind line=some (m',gs',e',here')∧∀a' H',a'.wk=a.wk→zL K H0 H' CW CH a' rs m' gs' pas e' here'→Q .non H'
theorem scW3:zf ["self","kind","line","mark","depth","hold"] ["self","kind","line"] (zb (mW 3)):=fsM
theorem z8g (D:HasM K CW "take_fault" "Walk.take_fault" (mW 3)) (c:Qp K CW) (ch:ja K CH) (F1:MN P w K mg base 1 CW "finish" ["self","ending"] (z6p K CW CH)) (F3:MN P w K mg base 1 CW "come_to" ["self","place"] (Jo K CW CH)):MN P w K mg base 2 CW "take_fault" ["self","kind","line"] (z5B K CW CH):=by
 refine MN.o D scW3 fun f cdv A outer s H vs Q E hr h=>?_
 obtain ⟨a,H0,rs,m,gs,pas,e,here,kind,line,m',gs',e',here',rfl,W,htk,q⟩:=h
 have hu:=Qg hr
 refine ⟨_,z7 (zQ (jc (jZ (zB (pv 0) rfl) (fun _=>rfl))) (z7 (zy (z0q (pv 0) c.cl F1 hr (z0 (zI (z0 zx (z0 (pv 1) (z0 (pv 2) z8)))) z8))) (ze z6A)) zt)
  (z7 (j6 (jq (zB (pv 0) rfl)) (j7 rfl (zn (zp (i:=3) scW3.nd rfl (Or.inl rfl)) (zn (zp (i:=4) scW3.nd rfl (Or.inl rfl)) qf))))
  (z7 (zw (i:=5) scW3.nd rfl (Or.inl rfl) (zB (pv 0) rfl))
  (z7 (qM (pv 5) (zN z15 (Z1 z2A (zB (pv 5) rfl) Q4 (Q3 (pv 4))) (qv (z0 (pv 1) z8))) rfl)
  (ze (qM (pv 0) (z0q (pv 0) c.cl F3 hr (z0 (Zq hu (zB (pv 0) rfl) (pv 3) (fun _ _=>rfl)) z8)) rfl))))),?_⟩
 obtain ⟨ea0,i1,i2⟩:=W.ins
 obtain ⟨gas,w1,w2⟩:=W.wards
 unfold z4f at htk
 cases hgl:gs.getLast? with
 | none=>
  rw [hgl] at htk
  cases htk
  have hg0:gs=[]:=List.getLast?_eq_none_iff.mp hgl
  subst hg0
  cases w2
  refine ⟨_,rfl,a.wk,CW,a.dw,_,.ref a.wl,rfl,i1,c.cl,c.wards,rfl,false,.inl ⟨_,SqL.of w1,rfl⟩,iteT ?_⟩
  refine ⟨_,rfl,a.wk,a.dw,_,rfl,i1,rfl,_,rfl,_,rfl,by show 3≤sizeLine;decide,fun p hp=>?_⟩
  have sp:=zg hp (.tup [.str "fault",.str kind,.int line])
  exact ⟨a,H0,rs,m,[],pas,e,here,p,_,rfl,W.same' sp,SqT.of z6,fun H' W'=>q a H' rfl W'⟩
 | some g=>
  rw [hgl] at htk
  dsimp only at htk
  by_cases hz:qp m.st.length=true
  case neg=>rw [kz hz] at htk;cases htk
  rw [kA hz] at htk
  cases hfl:zF rs g.1 with
  | none=>rw [hfl] at htk;cases htk
  | some j=>
   rw [hfl] at htk
   dsimp only at htk
   cases hcm:j3 rs (cutV m.st none (some g.2)++[V.str kind]).length 200 j gs.dropLast with
   | none=>rw [hcm] at htk;cases htk
   | some pg=>
    obtain ⟨p',gs2⟩:=pg
    rw [hcm] at htk
    cases htk
    have hne:gs≠[]:=fun z=>by rw [z] at hgl;cases hgl
    obtain ⟨bs,ga,g',e1,e2,e3,e4⟩:=z5Z w2 hne
    rw [hgl] at e2
    cases e2
    subst e1
    have hlast:((bs++[ga]).map V.ref)[((bs++[ga]).map V.ref).length - 1]?=some (V.ref ga):=by rw [←List.getLast?_eq_getElem?,kJ];simp
    have ed:((bs++[ga]).map V.ref).dropLast=bs.map V.ref:=by rw [kJ];simp
    refine ⟨_,rfl,a.wk,CW,a.dw,_,.ref a.wl,rfl,i1,c.cl,c.wards,rfl,true,.inl ⟨_,SqL.of w1,by simp⟩,iteF ?_⟩
    refine ⟨_,rfl,a.wk,CW,a.dw,_,.ref a.wl,rfl,i1,c.cl,c.wards,rfl,.inl ⟨rfl,_,SqL.of w1⟩,a.wl,_,_,rfl,rfl,w1,hlast,?_⟩
    rw [ed]
    have k1:jh H (upd H a.wl (.lst (bs.map V.ref))) a.wl:=fun b o e h=>by rw [zd h];exact e
    have kt:=zY.upd (o:=.lst (bs.map V.ref)) w1 rfl
    have W1:=W.ward (gs':=gs.dropLast) k1 z6 (e3.keep kt)
    have e4':=kt _ _ e4 rfl
    generalize upd H a.wl (.lst (bs.map V.ref))=H1 at *
    obtain ⟨ea1,j1,j2⟩:=W1.ins
    refine ⟨ga,_,rfl,SqT.of e4',rfl,_,_,rfl,_,_,rfl,rfl,?_⟩
    refine ⟨_,rfl,a.wk,CW,a.dw,_,.ref a.ho,rfl,j1,c.cl,c.hold,rfl,?_⟩
    refine ⟨_,rfl,a.ho,CH,a.dx,_,.ref a.hl,rfl,W1.hold.ins,ch.cl,ch.held,rfl,_,rfl,g.2,rfl,a.hl,_,rfl,SqL.of W1.hold.held,fun l1 h1=>?_⟩
    have s1:=zg h1 (.lst (cutV m.st none (some g.2)))
    refine ⟨_,rfl,by show 1≤sizeLine;decide,fun l2 h2=>?_⟩
    have s2:=zg h2 (.lst [V.str kind])
    have hzz:m.st.length≤1000:=kC hz
    have hcl:=jO m.st none (some g.2)
    refine ⟨l1,l2,_,_,rfl,rfl,s2 _ _ z6,z6,by rw [sizeLine_eq];show _+1≤_;lia,fun l3 h3=>?_⟩
    have s3:=zg h3 (.lst (cutV m.st none (some g.2)++[V.str kind]))
    have W3:=W1.same' (s1.trans s2)
    obtain ⟨as3,r1,r2⟩:=W3.rows
    obtain ⟨gas3,x1,x2⟩:=W3.wards
    have q1:=zc r1 h3
    have q2:=zc x1 h3
    have q3:=zc W3.passed h3
    have q4:=(zc W3.hold.said h3).symm
    have fp:=W3.same.free h3
    have W4:=W3.same' s3
    have W5:=W4.stack z6 fp q1 q2 q3 q4
    refine ⟨_,rfl,a.ho,CH,a.dx,_,rfl,W4.hold.ins,ch.cl,ch.held,(by show 3 < 1000;decide),?_⟩
    have W5:zL K H0 (upd (upd (upd (upd H1 l1 (.lst (cutV m.st none (some g.2)))) l2 (.lst [V.str kind])) l3 (.lst (cutV m.st none (some g.2)++[V.str kind]))) a.ho (.ins CH a.dx (putF "held" (.ref l3) [("held",.ref a.hl),("known",.ref a.kd),("said",.ref a.sl)]))) CW CH { a with hl:=l3 } rs { m with st:=cutV m.st none (some g.2)++[V.str kind] } gs.dropLast pas e here:=W5
    generalize upd (upd (upd (upd H1 l1 (.lst (cutV m.st none (some g.2)))) l2 (.lst [V.str kind])) l3 (.lst (cutV m.st none (some g.2)++[V.str kind]))) a.ho (.ins CH a.dx (putF "held" (.ref l3) [("held",.ref a.hl),("known",.ref a.kd),("said",.ref a.sl)]))=H5 at *
    obtain ⟨ea5,y1,y2⟩:=W5.ins
    obtain ⟨kv,z1,z2⟩:=W5.goals
    have hv:valV kv (Sum.inl g.1:Key)=some (.int (j:Int)):=by rw [z2 g.1,hfl];rfl
    have hgt:DGet H5 a.gd (.int g.1) (some (.int (j:Int))):=by rw [←hv];exact DGet.k (k:=Sum.inl g.1) z1
    refine ⟨_,rfl,a.wk,a.dw,_,rfl,y1,rfl,_,rfl,a.wk,CW,a.dw,_,.ref a.gd,rfl,y1,c.cl,c.goals,rfl,_,rfl,a.gd,_,rfl,hgt,?_⟩
    refine zL.come (a:={ a with hl:=l3 }) W5 hcm fun H6 W6=>?_
    obtain ⟨ea6,u1,u2⟩:=W6.ins
    refine ⟨_,rfl,a.wk,CW,a.dw,_,rfl,u1,c.cl,c.here,(by show 7 < 1000;decide),?_⟩
    exact q { a with hl:=l3 } _ rfl (W6.fields (here':=some p') u2)
end
section
variable {CW CH:Addr}
noncomputable def ZG (rs:List Row) (m:Mst) (gs:List Gd) (pas:List Nat) (p:Nat):Option (Mst × List Gd × List Nat × List V × Option Nat):=match rs[p]? with
 | none=>none
 | some r=>if qp pas.length=true then (match rowM r.op r.arg m with
  | none=>none
  | some (.next,m')=>(match j3 rs m'.st.length 200 (p+1) gs with | some (p',gs')=>some (m',gs',pas++[p],[.str "on"],some p') | none=>none)
  | some (.go,m')=>(match r.arg with
   | .int mk=>(match zF rs mk with
    | some j=>(match j3 rs m'.st.length 200 j gs with | some (p',gs')=>some (m',gs',pas++[p],[.str "on"],some p') | none=>none)
    | none=>none)
   | _=>none)
  | some (.fault k,m')=>(match z4f rs m' gs [.str "on"] k r.line with | some (m'',gs',e',here')=>some (m'',gs',pas++[p],e',here') | none=>none)
  | some (.value v,m')=>some (m',gs,pas++[p],[.str "value",v],none)) else none
def z5C (K:ky) (CW CH:Addr):Sp:=fun vs H Q _=>∃(a:WAd) (H0:Hp) (rs:List Row) (m:Mst) (gs:List Gd) (pas:List Nat) (p:Nat) (m':Mst) (gs':List Gd) (pas':List Nat) (e':List V) (here':Option Nat),vs=[.ref a.wk]∧zL K H0 H CW CH a rs m gs pas [.str "on"] (some p)∧ZG rs m gs pas p=some (m',gs',pas',e',here')∧∀a' H',a'.wk=a.wk→zL K H0 H' CW CH a' rs m' gs' pas' e' here'→Q (.bl true) H'
theorem scW4:zf ["self","place","op","arg","line","word","value"] ["self"] (zb (mW 4)):=fsM
theorem z8h (D:HasM K CW "step" "Walk.step" (mW 4)) (c:Qp K CW) (F1:MN P w K mg base 1 CW "finish" ["self","ending"] (z6p K CW CH)) (F2:MN P w K mg base 2 CW "take_fault" ["self","kind","line"] (z5B K CW CH)) (F3:MN P w K mg base 1 CW "come_to" ["self","place"] (Jo K CW CH))
  (FR:FN P w K mg base 5 "do_row" ["hold","op","arg"] (zJ K CH rowM)):MN P w K mg base 6 CW "step" ["self"] (z5C K CW CH):=by
 refine MN.o D scW4 fun f cdv A outer s H vs Q E hr h=>?_
 obtain ⟨a,H0,rs,m,gs,pas,p,m',gs',pas',e',here',rfl,W,hst,q⟩:=h
 have hu:=Qg hr
 have hr1:=hr.mono (show 1≤5 by decide)
 have hr2:=hr.mono (show 2≤5 by decide)
 refine ⟨_,z7 (zQ (zl Q7 (zB (pv 0) rfl) zR (zo _)) qu zt)
  (z7 (zw (i:=1) scW4.nd rfl (Or.inl rfl) (zB (pv 0) rfl))
  (z7 (j6 (zD zG (zB (pv 0) rfl) (pv 1) (fun _ _=>rfl)) (j7 rfl (zn (zp (i:=2) scW4.nd rfl (Or.inl rfl)) (zn (zp (i:=3) scW4.nd rfl (Or.inl rfl)) (zn (zp (i:=4) scW4.nd rfl (Or.inl rfl)) qf)))))
  (z7 (zy (je (zB (pv 0) rfl) (z0 (pv 1) z8)))
  (z7 (j6 (zm FR hr rfl (z0 (zB (pv 0) rfl) (z0 (pv 2) (z0 (pv 3) z8)))) (j7 rfl (zn (zp (i:=5) scW4.nd rfl (Or.inl rfl)) (zn (zp (i:=6) scW4.nd rfl (Or.inl rfl)) qf))))
  (z7 (zQ (zl qz (pv 5) zx (zo _)) (ze (qM (pv 0) (z0q (pv 0) c.cl F3 hr1 (z0 (zN qO (pv 1) zh) z8)) rfl))
   (ze (zQ (zl qz (pv 5) zx (zo _)) (ze (qM (pv 0) (z0q (pv 0) c.cl F3 hr1 (z0 (Zq hu (zB (pv 0) rfl) (pv 3) (fun _ _=>rfl)) z8)) rfl))
    (ze (zQ (zl qz (pv 5) zx (zo _)) (ze (zy (z0q (pv 0) c.cl F2 hr2 (z0 (pv 6) (z0 (pv 4) z8)))))
     (ze (zy (z0q (pv 0) c.cl F1 hr1 (z0 (zI (z0 (pv 5) (z0 (pv 6) z8))) z8)))))))))
  (ze (zi Qv))))))),?_⟩
 obtain ⟨ea,i1,i2⟩:=W.ins
 obtain ⟨as,r1,r2⟩:=W.rows
 unfold ZG at hst
 cases hrp:rs[p]? with
 | none=>rw [hrp] at hst;cases hst
 | some r=>
  rw [hrp] at hst
  dsimp only at hst
  by_cases hpz:qp pas.length=true
  case neg=>rw [kz hpz] at hst;cases hst
  rw [kA hpz] at hst
  obtain ⟨ra,hra,har⟩:=r2.get' hrp
  refine ⟨_,rfl,a.wk,CW,a.dw,_,.int (p:Nat),rfl,i1,c.cl,c.here,rfl,rfl,_,rfl,iteF ?_⟩
  refine ⟨_,rfl,a.wk,CW,a.dw,_,.int (p:Nat),rfl,i1,c.cl,c.here,rfl,?_⟩
  refine ⟨_,rfl,a.wk,CW,a.dw,_,.ref a.rl,rfl,i1,c.cl,c.rows,rfl,_,rfl,a.rl,_,_,_,rfl,rfl,SqL.of r1,zj hra,ra,_,rfl,SqT.of har,rfl,_,_,rfl,_,_,rfl,_,_,rfl,rfl,?_⟩
  cases hrow:rowM r.op r.arg m with
  | none=>rw [hrow] at hst;cases hst
  | some rm=>
   obtain ⟨res,m1⟩:=rm
   rw [hrow] at hst
   try dsimp only at hst
   refine ⟨_,rfl,a.wk,CW,a.dw,_,.ref a.pl,rfl,i1,c.cl,c.passed,rfl,.inl ⟨rfl,_,SqL.of W.passed⟩,_,rfl,a.pl,_,_,rfl,rfl,W.passed,(by rw [kj];exact qR hpz),?_⟩
   have W1:=W.pass p
   generalize upd H a.pl (.lst ((pas.map fun p=>V.int (p:Nat))++[.int (p:Nat)]))=H1 at W1
   obtain ⟨ea1,j1,j2⟩:=W1.ins
   refine ⟨_,rfl,a.wk,CW,a.dw,_,.ref a.ho,rfl,j1,c.cl,c.hold,rfl,_,rfl,_,rfl,a.ho,a.hl,a.kd,a.sl,a.dx,r.op,r.arg,m,res,m1,rfl,W1.hold,hrow,fun t H2 ht hA hrest=>?_⟩
   have W2:=W1.deed hA hrest
   obtain ⟨ea2,l1,l2⟩:=W2.ins
   cases res with
   | next=>
    dsimp only at hst
    refine ⟨t,_,rfl,ht,rfl,_,_,rfl,_,_,rfl,rfl,?_⟩
    cases hcm:j3 rs m1.st.length 200 (p+1) gs with
    | none=>rw [hcm] at hst;cases hst
    | some pg=>
     obtain ⟨p',gs2⟩:=pg
     rw [hcm] at hst
     cases hst
     refine ⟨_,rfl,rfl,_,rfl,iteT ?_⟩
     refine ⟨_,rfl,a.wk,a.dw,_,rfl,l1,rfl,_,rfl,_,_,rfl,rfl,?_⟩
     refine zL.come W2 hcm fun H3 W3=>?_
     obtain ⟨ea3,u1,u2⟩:=W3.ins
     refine ⟨_,rfl,a.wk,CW,a.dw,_,rfl,u1,c.cl,c.here,(by show 7 < 1000;decide),?_⟩
     exact q a _ rfl (W3.fields (here':=some p') u2)
   | go=>
    dsimp only at hst
    refine ⟨t,_,rfl,ht,rfl,_,_,rfl,_,_,rfl,rfl,?_⟩
    cases harg:r.arg with
    | int mk=>
     rw [harg] at hst
     dsimp only at hst
     cases hfl:zF rs mk with
     | none=>rw [hfl] at hst;cases hst
     | some j=>
      rw [hfl] at hst
      dsimp only at hst
      cases hcm:j3 rs m1.st.length 200 j gs with
      | none=>rw [hcm] at hst;cases hst
      | some pg=>
       obtain ⟨p',gs2⟩:=pg
       rw [hcm] at hst
       cases hst
       obtain ⟨kv,g1,g2⟩:=W2.goals
       have hv:valV kv (Sum.inl mk:Key)=some (.int (j:Int)):=by rw [g2 mk,hfl];rfl
       have hgt:DGet H2 a.gd (.int mk) (some (.int (j:Int))):=by rw [←hv];exact DGet.k (k:=Sum.inl mk) g1
       refine ⟨_,rfl,rfl,_,rfl,iteF ⟨_,rfl,rfl,_,rfl,iteT ?_⟩⟩
       refine ⟨_,rfl,a.wk,a.dw,_,rfl,l1,rfl,_,rfl,a.wk,CW,a.dw,_,.ref a.gd,rfl,l1,c.cl,c.goals,rfl,_,rfl,a.gd,_,rfl,hgt,?_⟩
       refine zL.come W2 hcm fun H3 W3=>?_
       obtain ⟨ea3,u1,u2⟩:=W3.ins
       refine ⟨_,rfl,a.wk,CW,a.dw,_,rfl,u1,c.cl,c.here,(by show 7 < 1000;decide),?_⟩
       exact q a _ rfl (W3.fields (here':=some p') u2)
    | _=>rw [harg] at hst;cases hst
   | fault k=>
    dsimp only at hst
    cases htk:z4f rs m1 gs [.str "on"] k r.line with
    | none=>rw [htk] at hst;cases hst
    | some rr=>
     obtain ⟨m2,gs2,e2,here2⟩:=rr
     rw [htk] at hst
     cases hst
     refine ⟨t,_,rfl,ht,rfl,_,_,rfl,_,_,rfl,rfl,?_⟩
     refine ⟨_,rfl,rfl,_,rfl,iteF ⟨_,rfl,rfl,_,rfl,iteF ⟨_,rfl,rfl,_,rfl,iteT ?_⟩⟩⟩
     exact ⟨_,rfl,a.wk,a.dw,_,rfl,l1,rfl,_,rfl,_,rfl,a,H0,rs,_,_,_,_,_,k,r.line,m',gs',e',here',rfl,W2,htk,fun a' H3 ha W3=>q a' H3 ha W3⟩
   | value v=>
    cases hst
    refine ⟨t,_,rfl,ht,rfl,_,_,rfl,_,_,rfl,rfl,?_⟩
    refine ⟨_,rfl,rfl,_,rfl,iteF ⟨_,rfl,rfl,_,rfl,iteF ⟨_,rfl,rfl,_,rfl,iteF ?_⟩⟩⟩
    refine ⟨_,rfl,a.wk,a.dw,_,rfl,l1,rfl,_,rfl,_,rfl,by show 2≤sizeLine;decide,fun p2 hp2=>?_⟩
    have sp:=zg hp2 (.tup [.str "value",v])
    exact ⟨a,H0,rs,_,_,_,_,_,p2,_,rfl,W2.same' sp,SqT.of z6,fun H3 W3=>q a H3 rfl W3⟩
end
section
variable {CW CH:Addr}
abbrev WX (K:ky) (CW CH:Addr) (H:Hp) (φ:WAd→Hp→List Row→Mst→List Gd→List Nat→List V→Option Nat→Prop):Prop:=∃(a:WAd) (H0:Hp) (rs:List Row) (m:Mst) (gs:List Gd) (pas:List Nat) (e:List V) (here:Option Nat),zL K H0 H CW CH a rs m gs pas e here∧φ a H0 rs m gs pas e here
def z2m (K:ky) (CW CH:Addr):Sp:=fun vs H Q _=>WX K CW CH H fun a _ _ _ _ _ _ here=>vs=[.ref a.wk]∧Q (z1Q here) H
theorem scW5:zf ["self"] ["self"] (zb (mW 5)):=fsM
theorem z6I (D:HasM K CW "place" "Walk.place" (mW 5)) (c:Qp K CW):MN P w K mg base 1 CW "place" ["self"] (z2m K CW CH):=by
 refine MN.o D scW5 fun f cdv A outer s H vs Q E hr h=>?_
 obtain ⟨a,H0,rs,m,gs,pas,e,here,W,rfl,q⟩:=h
 obtain ⟨ea,i1,i2⟩:=W.ins
 exact ⟨_,ze (zi (zB (pv 0) rfl)),_,rfl,a.wk,CW,a.dw,_,_,rfl,i1,c.cl,c.here,rfl,q⟩
def z6q (K:ky) (CW CH:Addr):Sp:=fun vs H Q _=>WX K CW CH H fun a _ _ _ _ _ e _=>vs=[.ref a.wk]∧∀ea,SqT K H ea e→Q (.ref ea) H
theorem z94:zf ["self"] ["self"] (zb (mW 11)):=fsM
theorem z9s (D:HasM K CW "end" "Walk.end" (mW 11)) (c:Qp K CW):MN P w K mg base 1 CW "end" ["self"] (z6q K CW CH):=by
 refine MN.o D z94 fun f cdv A outer s H vs Q E hr h=>?_
 obtain ⟨a,H0,rs,m,gs,pas,e,here,W,rfl,q⟩:=h
 obtain ⟨ea,i1,i2⟩:=W.ins
 exact ⟨_,ze (zi (zB (pv 0) rfl)),_,rfl,a.wk,CW,a.dw,_,_,rfl,i1,c.cl,c.ending,rfl,q ea i2⟩
def z2i (K:ky) (CW CH:Addr):Sp:=fun vs H Q _=>WX K CW CH H fun a _ _ m _ _ _ _=>vs=[.ref a.wk]∧∀l,H l=none→Q (.ref l) (upd H l (.lst m.sd))
theorem scW9:zf ["self"] ["self"] (zb (mW 9)):=fsM
theorem z8f (D:HasM K CW "told" "Walk.told" (mW 9)) (c:Qp K CW) (ch:ja K CH) (G:Glo mg):MN P w K mg base 1 CW "told" ["self"] (z2i K CW CH):=by
 refine MN.o D scW9 fun f cdv A outer s H vs Q E hr h=>?_
 obtain ⟨a,H0,rs,m,gs,pas,e,here,W,rfl,q⟩:=h
 obtain ⟨ea,i1,i2⟩:=W.ins
 refine ⟨_,ze (zi (qW qI rfl G.list jg (z0 (zB (zB (pv 0) rfl) rfl) z8))),?_⟩
 exact ⟨_,rfl,a.wk,CW,a.dw,_,.ref a.ho,rfl,i1,c.cl,c.hold,rfl,a.ho,CH,a.dx,_,.ref a.sl,rfl,W.hold.ins,ch.cl,ch.said,rfl,a.sl,_,rfl,.inl (SqL.of W.hold.said),q⟩
def z6n (K:ky) (CW CH:Addr):Sp:=fun vs H Q _=>WX K CW CH H fun a _ _ _ _ pas _ _=>vs=[.ref a.wk]∧Q (.int (pas.length:Nat)) H
theorem z93:zf ["self"] ["self"] (zb (mW 12)):=fsM
theorem z9q (D:HasM K CW "__len__" "Walk.__len__" (mW 12)) (c:Qp K CW) (G:Glo mg):MN P w K mg base 1 CW "__len__" ["self"] (z6n K CW CH):=by
 refine MN.o D z93 fun f cdv A outer s H vs Q E hr h=>?_
 obtain ⟨a,H0,rs,m,gs,pas,e,here,W,rfl,q⟩:=h
 obtain ⟨ea,i1,i2⟩:=W.ins
 refine ⟨_,ze (zi (zq zu rfl G.len zK (z0 (zB (pv 0) rfl) z8))),?_⟩
 refine ⟨_,rfl,a.wk,CW,a.dw,_,.ref a.pl,rfl,i1,c.cl,c.passed,rfl,a.pl,_,rfl,.inl (SqL.of W.passed),?_⟩
 rw [kj]
 exact q
end
structure Ini (H Hi:Hp) (x CW dw:Addr) (fs:List (Str × V)) (ps:List (Addr × HO)):Prop where
 sx:∀b o,H b=some o→b≠x→Hi b=some o
 hx:Hi x=some (.ins CW dw fs)
 held:∀q∈ps,Hi q.1=some q.2∧q.1≠x
theorem Ini.same {H Hi Hj:Hp} {x CW dw:Addr} {fs:List (Str × V)} {ps:List (Addr × HO)} (I:Ini H Hi x CW dw fs ps) (s:Same Hi Hj):Ini H Hj x CW dw fs ps:=
 ⟨fun b o e h=>s _ _ (I.sx b o e h),s _ _ I.hx,fun q hq=>⟨s _ _ (I.held q hq).1,(I.held q hq).2⟩⟩
theorem Ini.setx {H Hi:Hp} {x CW dw:Addr} {fs:List (Str × V)} {ps:List (Addr × HO)} (I:Ini H Hi x CW dw fs ps) (f:Str) (v:V):Ini H (upd Hi x (.ins CW dw (putF f v fs))) x CW dw (putF f v fs) ps:=
 ⟨fun b o e h=>by rw [zd h];exact I.sx b o e h,z6,fun q hq=>⟨by rw [zd (I.held q hq).2];exact (I.held q hq).1,(I.held q hq).2⟩⟩
theorem Ini.add {H Hi:Hp} {x CW dw p:Addr} {fs:List (Str × V)} {ps:List (Addr × HO)} {o:HO} (I:Ini H Hi x CW dw fs ps) (e:Hi p=some o) (h:p≠x):Ini H Hi x CW dw fs ((p,o) :: ps):=
 ⟨I.sx,I.hx,fun q hq=>by
  rcases kD.mp hq with z | z
  ·rw [z];exact ⟨e,h⟩
  ·exact I.held q z⟩
theorem Ini.new {H Hi:Hp} {x CW dw p:Addr} {fs:List (Str × V)} {ps:List (Addr × HO)} {o:HO} (I:Ini H Hi x CW dw fs ps) (hp:Hi p=none):Ini H (upd Hi p o) x CW dw fs ((p,o) :: ps):=
 (I.same (zg hp o)).add z6 (zc I.hx hp).symm
theorem Ini.nen {H Hi:Hp} {x CW dw p:Addr} {fs:List (Str × V)} {ps:List (Addr × HO)} (I:Ini H Hi x CW dw fs ps) (hp:Hi p=none) {q:Addr} {o:HO} (h:(q,o)∈ps):q≠p:=zc (I.held _ h).1 hp
section
variable {CW CH:Addr}
def z5F (K:ky) (CW CH:Addr):Sp:=fun vs H Q _=>∃(x l d dw:Addr) (as:List Addr) (rs:List Row) (fin:Fnd) (kvs:List (Key × V)) (n p':Nat) (gs':List Gd) (H0:Hp),vs=[.ref x,.ref l,.ref d]∧H x=some (.ins CW dw [])∧H0 x=none∧Same H0 H∧H l=some (.lst (as.map V.ref))∧zr H as rs∧Code rs∧qU rs=some fin∧
 H d=some (.dK kvs)∧Qr kvs∧j3 rs 0 n 0 []=some (p',gs')∧∀(a:WAd) H',a.wk=x→zL K H0 H' CW CH a rs ⟨[],kvs,[]⟩ gs' [] [.str "on"] (some p')→Q .non H'
theorem scW0:zf ["self","code","names"] ["self","code","names"] (zb (mW 0)):=fsM
theorem z6N (D:HasI K CW "Walk.__init__" (mW 0)) (c:Qp K CW) (G:Glo mg) (cs:Cons K mg) (hmH:mg "Hold"=some (.ref CH)) (FS:FN P w K mg base 10 "states" ["code"] (QU K)) (FN':FN P w K mg base 5 "check_names" ["thing"] z5J) (FL:FN P w K mg base 7 "label_places" ["rows"] (z0T K))
  (FH:IN P w K mg base 1 CH ["self","names"] (z5G CH)) (FC:MN P w K mg base 1 CW "come_to" ["self","place"] (Jo K CW CH)):IN P w K mg base 11 CW ["self","code","names"] (z5F K CW CH):=by
 refine IN.o D scW0 fun f cdv A outer s H vs Q E hr h=>?_
 obtain ⟨x,l,d,dw,as,rs,fin,kvs,n,p',gs',H0,rfl,hx,hx0,s0,hl,hR,hc,hfin,hd,hn,hcm,q⟩:=h
 obtain ⟨oa,mo,to⟩:=cs.on
 refine ⟨_,z7 (zy (zm FS hr rfl (z0 (pv 1) z8)))
  (z7 (zy (zm FN' (hr.mono (by decide)) rfl (z0 (pv 2) z8)))
  (z7 (qM (pv 0) (qW qI rfl G.list jg (z0 (pv 1) z8)) rfl)
  (z7 (qM (pv 0) (zm FL (hr.mono (by decide)) rfl (z0 (pv 1) z8)) rfl)
  (z7 (qM (pv 0) (z84 FH (hr.mono (by decide)) rfl hmH (z0 (pv 2) z8)) rfl)
  (z7 (qM (pv 0) (qv z8) rfl)
  (z7 (qM (pv 0) (qv z8) rfl)
  (z7 (qM (pv 0) (zO rfl mo (v:=.ref oa) rfl) rfl)
  (ze (qM (pv 0) (z0q (pv 0) c.cl FC (hr.mono (by decide)) (z0 zh z8)) rfl))))))))),?_⟩
 have I0:Ini H H x CW dw [] []:=⟨fun _ _ e _=>e,hx,fun q hq=>by cases hq⟩
 have nlx:l≠x:=zA hl hx nofun
 have ndx:d≠x:=zA hd hx nofun
 have rowsK:∀{Hi fs ps},Ini H Hi x CW dw fs ps→zr Hi as rs:=fun I=>hR.keep fun b xs e=>I.sx _ _ e (zA e hx nofun)
 have fresh:∀{Hi fs ps p},Ini H Hi x CW dw fs ps→Hi p=none→H0 p=none:=fun {Hi fs ps p} I hp=>by
  cases e:H0 p with
  | none=>rfl
  | some o=>
   have:=I.sx p o (s0 _ _ e) (zc e hx0)
   rw [hp] at this
   cases this
 refine ⟨_,rfl,l,as,rs,fin,rfl,hl,hR,hc,hfin,fun fl fvs H1 s1 _ _ _=>?_⟩
 refine ⟨_,rfl,d,kvs,rfl,s1 _ _ hd,hn,fun H2 s2=>?_⟩
 have I2:=(I0.same s1).same s2
 refine ⟨_,rfl,l,_,rfl,.inl (SqL.of (I2.sx _ _ hl nlx)),fun rl hrl=>?_⟩
 have I3:=I2.new (o:=.lst (as.map V.ref)) hrl
 refine ⟨_,rfl,x,CW,dw,[],rfl,I3.hx,c.cl,c.rows,(by decide),?_⟩
 have I4:=I3.setx "rows" (.ref rl)
 clear I3 I2
 generalize upd (upd H2 rl (.lst (as.map V.ref))) x (.ins CW dw (putF "rows" (.ref rl) []))=H4 at I4
 refine ⟨_,rfl,l,as,rs,rfl,SqL.of (I4.sx _ _ hl nlx),rowsK I4,hc.ok,ku hc.hi (by decide),fun gd kg H5 hgd0 s5 hgd hL=>?_⟩
 have ngx:gd≠x:=(zc I4.hx hgd0).symm
 have nrg:rl≠gd:=I4.nen hgd0 (o:=.lst (as.map V.ref)) (by simp)
 have I5:=(I4.same s5).add hgd ngx
 refine ⟨_,rfl,x,CW,dw,_,rfl,I5.hx,c.cl,c.goals,(by show 1 < 1000;decide),?_⟩
 have I6:=I5.setx "goals" (.ref gd)
 clear I5 I4
 generalize upd H5 x (.ins CW dw (putF "goals" (.ref gd) (putF "rows" (.ref rl) [])))=H6 at I6
 refine ⟨_,rfl,fun ho dx hho hdx ndh=>?_⟩
 have sA:=(zg hdx (.own ho))
 have hho':(upd H6 dx (.own ho)) ho=none:=by rw [zd ndh.symm];exact hho
 have sB:=sA.trans (zg hho' (.ins CH dx []))
 refine ⟨ho,d,dx,kvs,rfl,z6,sB _ _ (I6.sx _ _ hd ndx),fun hl' kd sl H7 f1 f2 f3 hA kp=>⟨rfl,?_⟩⟩
 have s7:Same H6 H7:=fun b o e=>kp b o (sB _ _ e) (zc e hho)
 have g1:=sB.free f1
 have g2:=sB.free f2
 have g3:=sB.free f3
 have fho:=fresh I6 hho
 have nhx:ho≠x:=(zc I6.hx hho).symm
 have n1:rl≠hl':=I6.nen g1 (o:=.lst (as.map V.ref)) (by simp)
 have n2:rl≠sl:=I6.nen g3 (o:=.lst (as.map V.ref)) (by simp)
 have n9:gd≠kd:=I6.nen g2 (o:=.dK kg) (by simp)
 have fh1:=fresh I6 g1
 have fh2:=fresh I6 g2
 have fh3:=fresh I6 g3
 have I7:=((((I6.same s7).add hA.ins nhx).add hA.held (zc I6.hx g1).symm).add hA.known (zc I6.hx g2).symm).add hA.said (zc I6.hx g3).symm
 refine ⟨_,rfl,x,CW,dw,_,rfl,I7.hx,c.cl,c.hold,(by show 2 < 1000;decide),?_⟩
 have I8:=I7.setx "hold" (.ref ho)
 have nehs:=hA.ne
 clear I7 I6 kp hA sA sB
 generalize upd H7 x (.ins CW dw (putF "hold" (.ref ho) (putF "goals" (.ref gd) (putF "rows" (.ref rl) []))))=H8 at I8
 refine ⟨by show 0≤sizeLine;decide,fun wl hwl=>?_⟩
 have n4:hl'≠wl:=I8.nen hwl (o:=.lst []) (by simp)
 have n5:sl≠wl:=I8.nen hwl (o:=.lst []) (by simp)
 have I9:=I8.new (o:=.lst []) hwl
 have nrw:rl≠wl:=I8.nen hwl (o:=.lst (as.map V.ref)) (by simp)
 have nwx:wl≠x:=(zc I8.hx hwl).symm
 have fwl:=fresh I8 hwl
 refine ⟨_,rfl,x,CW,dw,_,rfl,I9.hx,c.cl,c.wards,(by show 3 < 1000;decide),?_⟩
 have I10:=I9.setx "wards" (.ref wl)
 clear I9 I8
 generalize upd (upd H8 wl (.lst [])) x (.ins CW dw (putF "wards" (.ref wl) (putF "hold" (.ref ho) (putF "goals" (.ref gd) (putF "rows" (.ref rl) [])))))=H10 at I10
 refine ⟨by show 0≤sizeLine;decide,fun pl hpl=>?_⟩
 have n3:rl≠pl:=I10.nen hpl (o:=.lst (as.map V.ref)) (by simp)
 have n6:wl≠pl:=I10.nen hpl (o:=.lst []) (by simp)
 have n7:hl'≠pl:=I10.nen hpl (o:=.lst []) (by simp)
 have n8:sl≠pl:=I10.nen hpl (o:=.lst []) (by simp)
 have fpl:=fresh I10 hpl
 have I11:=I10.new (o:=.lst []) hpl
 refine ⟨_,rfl,x,CW,dw,_,rfl,I11.hx,c.cl,c.passed,(by show 4 < 1000;decide),?_⟩
 have I12:=I11.setx "passed" (.ref pl)
 clear I11 I10
 generalize upd (upd H10 pl (.lst [])) x (.ins CW dw (putF "passed" (.ref pl) (putF "wards" (.ref wl) (putF "hold" (.ref ho) (putF "goals" (.ref gd) (putF "rows" (.ref rl) []))))))=H12 at I12
 refine ⟨_,rfl,x,CW,dw,_,rfl,I12.hx,c.cl,c.ending,(by show 5 < 1000;decide),?_⟩
 have I13:=I12.setx "ending" (.ref oa)
 clear I12
 generalize upd H12 x (.ins CW dw (putF "ending" (.ref oa) (putF "passed" (.ref pl) (putF "wards" (.ref wl) (putF "hold" (.ref ho) (putF "goals" (.ref gd) (putF "rows" (.ref rl) [])))))))=H13 at I13
 have hrl13:H13 rl=some (.lst (as.map V.ref)):=(I13.held (rl,.lst (as.map V.ref)) (by simp)).1
 have hho13:=(I13.held (ho,.ins CH dx [("held",.ref hl'),("known",.ref kd),("said",.ref sl)]) (by simp)).1
 have hhl13:=(I13.held (hl',.lst []) (by simp)).1
 have hwl13:=(I13.held (wl,.lst []) (by simp)).1
 have hpl13:=(I13.held (pl,.lst []) (by simp)).1
 have hgd13:=(I13.held (gd,.dK kg) (by simp)).1
 have hkd13:=(I13.held (kd,.dK kvs) (by simp)).1
 have hsl13:=(I13.held (sl,.lst []) (by simp)).1
 refine ⟨_,rfl,x,dw,_,rfl,I13.hx,rfl,x,dw,rl,wl,ho,dx,hl',_,_,as,[],rs,[],[],0,n,p',gs',rfl,I13.hx,rfl,rfl,rfl,hho13,rfl,hhl13,hrl13,rowsK I13,hwl13,.nil,nrw,n4,hcm,fun gas' H14 k14 v1 v2=>?_⟩
 refine ⟨_,rfl,x,CW,dw,_,rfl,k14 _ _ I13.hx nwx.symm,c.cl,c.here,(by show 6 < 1000;decide),?_⟩
 have kx:∀{b o},H13 b=some o→b≠wl→b≠x→(upd H14 x (.ins CW dw (putF "here" (.int (p':Nat)) (putF "ending" (.ref oa) (putF "passed" (.ref pl) (putF "wards" (.ref wl) (putF "hold" (.ref ho) (putF "goals" (.ref gd) (putF "rows" (.ref rl) []))))))))) b=some o:=fun e h1 h2=>by rw [zd h2];exact k14 _ _ e h1
 have sx15:Same H0 (upd H14 x (.ins CW dw (putF "here" (.int (p':Nat)) (putF "ending" (.ref oa) (putF "passed" (.ref pl) (putF "wards" (.ref wl) (putF "hold" (.ref ho) (putF "goals" (.ref gd) (putF "rows" (.ref rl) []))))))))):=fun b o e=>kx (I13.sx b o (s0 _ _ e) (zc e hx0)) (zc e fwl) (zc e hx0)
 have kt:zY H14 (upd H14 x (.ins CW dw (putF "here" (.int (p':Nat)) (putF "ending" (.ref oa) (putF "passed" (.ref pl) (putF "wards" (.ref wl) (putF "hold" (.ref ho) (putF "goals" (.ref gd) (putF "rows" (.ref rl) []))))))))):=zY.upd (k14 _ _ I13.hx nwx.symm) rfl
 refine q ⟨x,dw,rl,gd,ho,wl,pl,hl',kd,sl,dx⟩ _ rfl ⟨sx15,hx0,fpl,fh1,fh2,fh3,fwl,fho,⟨oa,z6,to.sq _⟩,⟨as,kx hrl13 nrw (zA hrl13 I13.hx nofun),(rowsK I13).keep fun b xs e=>kx e (zA e hwl13 nofun) (zA e I13.hx nofun)⟩,⟨kg,kx hgd13 (zA hgd13 hwl13 nofun) (zA hgd13 I13.hx nofun),hL⟩,
  ⟨kx hho13 (zA hho13 hwl13 nofun) nhx,kx hhl13 n4 (zA hhl13 I13.hx nofun),kx hkd13 (zA hkd13 hwl13 nofun) (zA hkd13 I13.hx nofun),kx hsl13 n5 (zA hsl13 I13.hx nofun),nehs⟩,⟨gas',by rw [zd nwx];exact v1,v2.keep kt⟩,kx hpl13 n6.symm (zA hpl13 I13.hx nofun),n1,n2,n3,n4.symm,n5.symm,n6,n7.symm,n8.symm,n9,nhx.symm,nrw⟩
end
noncomputable def jp (rs:List Row) (steps:Nat):Nat→Mst→List Gd→List Nat→List V→Option Nat→Option (Mst × List Nat × List V)
 | _,m,_,pas,e,none=>some (m,pas,e)
 | 0,m,_,pas,e,some _=>if pas.length < steps then none else some (m,pas,e)
 | n+1,m,gs,pas,e,some p=>if pas.length < steps then (if e=[.str "on"] then (match ZG rs m gs pas p with
   | some (m',gs',pas',e',here')=>jp rs steps n m' gs' pas' e' here'
   | none=>none) else none) else some (m,pas,e)
noncomputable def runM (rs:List Row) (kvs:List (Key × V)) (steps:Nat):Option (List V × List V × Nat):=match qU rs with
 | none=>none
 | some _=>match j3 rs 0 200 0 [] with
  | none=>none
  | some (p0,g0)=>match jp rs steps 500 ⟨[],kvs,[]⟩ g0 [] [.str "on"] (some p0) with
   | some (m,pas,e)=>some (e,m.sd,pas.length)
   | none=>none
theorem z4i {rs:List Row} {m m':Mst} {gs gs':List Gd} {pas pas':List Nat} {p:Nat} {e':List V} {here':Option Nat} (h:ZG rs m gs pas p=some (m',gs',pas',e',here')):pas'.length≤1001:=by
 unfold ZG at h
 have go:qp pas.length=true→(pas++[p]).length≤1001:=fun z=>by
  have:=kC z
  rw [kl]
  show pas.length+1≤1001
  lia
 repeat' split at h
 all_goals first
  | (cases h)
  | skip
 all_goals (first | exact go (by assumption) | skip)
section
variable {CW CH:Addr}
def z7M (K:ky):Sp:=fun vs H Q _=>∃(l d:Addr) (as:List Addr) (rs:List Row) (kvs:List (Key × V)) (steps:Nat) (e sd:List V) (n:Nat),vs=[.ref l,.ref d,.int (steps:Nat)]∧H l=some (.lst (as.map V.ref))∧zr H as rs∧Code rs∧H d=some (.dK kvs)∧Qr kvs∧steps≤100000∧runM rs kvs steps=some (e,sd,n)∧
 ∀t ea tl H',Same H H'→H' t=some (.tup [.ref ea,.ref tl,.int (n:Nat)])→SqT K H' ea e→H' tl=some (.lst sd)→Q (.ref t) H'
theorem z7R:zf ["code","names","steps","walk"] ["code","names","steps"] (zb (top 110)):=fsM
theorem z8y (D:zk K mg "run" (top 110)) (c:Qp K CW) (G:Glo mg) (hmW:mg "Walk"=some (.ref CW)) (FI:IN P w K mg base 11 CW ["self","code","names"] (z5F K CW CH)) (FS:FN P w K mg base 3 "check_steps" ["thing"] z5I) (FP:MN P w K mg base 1 CW "place" ["self"] (z2m K CW CH))
  (FL:MN P w K mg base 1 CW "__len__" ["self"] (z6n K CW CH)) (FT:MN P w K mg base 6 CW "step" ["self"] (z5C K CW CH)) (FE:MN P w K mg base 1 CW "end" ["self"] (z6q K CW CH)) (FO:MN P w K mg base 1 CW "told" ["self"] (z2i K CW CH)):FN P w K mg base 13 "run" ["code","names","steps"] (z7M K):=by
 refine FN.o D z7R fun f cdv A outer s H vs Q E hr h=>?_
 obtain ⟨l,d,as,rs,kvs,steps,e,sd,n,rfl,hl,hR,hc,hd,hn,hs,hrun,q⟩:=h
 have hr1:=hr.mono (show 1≤12 by decide)
 have hr2:=hr.mono (show 2≤12 by decide)
 obtain ⟨fL,fdL,hmL,hbL,FL'⟩:=FL
 have lenR:=Jf (X:=(cxOf CX0 P w K mg base ["code","names","steps","walk"] "run" (zb (top 110)) f cdv A outer s H E).nox) hmL.at_ hmL.fn FL' hr2.in1 hbL
 refine ⟨_,z7 (zw (i:=3) z7R.nd rfl (Or.inl rfl) (z84 FI hr rfl hmW (z0 (pv 0) (z0 (pv 1) z8))))
  (z7 (zy (zm FS (hr.mono (by decide)) rfl (z0 (pv 2) z8)))
  (z7 (ZO PassesOwn.never (PW.pt (Jt (zl jL (z0Z (pv 3) c.cl FP hr1) zR (zo _)) (Q0 (zl z4A (zq lenR rfl G.len zK (z0 (pv 3) z8)) (pv 2) (zo _)))))
   (ze (zy (z0Z (pv 3) c.cl FT (hr.mono (by decide))))))
  (ze (zi (zI (z0 (z0Z (pv 3) c.cl FE hr1) (z0 (z0Z (pv 3) c.cl FO hr1) (z0 (zq lenR rfl G.len zK (z0 (pv 3) z8)) z8)))))))),?_⟩
 unfold runM at hrun
 cases hfin:qU rs with
 | none=>rw [hfin] at hrun;cases hrun
 | some fin=>
  rw [hfin] at hrun
  dsimp only at hrun
  cases hcm:j3 rs 0 200 0 [] with
  | none=>rw [hcm] at hrun;cases hrun
  | some pg0=>
   obtain ⟨p0,g0⟩:=pg0
   rw [hcm] at hrun
   dsimp only at hrun
   cases hlp:jp rs steps 500 ⟨[],kvs,[]⟩ g0 [] [.str "on"] (some p0) with
   | none=>rw [hlp] at hrun;cases hrun
   | some fin2=>
    obtain ⟨mE,pasE,eE⟩:=fin2
    rw [hlp] at hrun
    injection hrun with hrun
    injection hrun with z1 z2
    injection z2 with z2 z3
    subst z1 z2 z3
    refine ⟨_,rfl,_,rfl,fun x dx hx hdx ndx=>?_⟩
    have sA:=zg hdx (.own x)
    have hx':(upd H dx (.own x)) x=none:=by rw [zd ndx.symm];exact hx
    have sB:=sA.trans (zg hx' (.ins CW dx []))
    refine ⟨x,l,d,dx,as,rs,fin,kvs,200,p0,g0,H,rfl,z6,hx,sB,sB _ _ hl,hR.same sB,hc,hfin,sB _ _ hd,hn,hcm,fun a0 H1 hw W=>⟨rfl,?_⟩⟩
    subst hw
    refine ⟨_,rfl,steps,rfl,hs,?_⟩
    refine ⟨fun k σ H2=>∃a m gs pas e here,a.wk=a0.wk∧σ=[some (.ref l),some (.ref d),some (.int (steps:Nat)),some (.ref a0.wk)]∧zL K H H2 CW CH a rs m gs pas e here∧jp rs steps k m gs pas e here=some (mE,pasE,eE)∧pas.length≤1001,⟨500,a0,_,_,_,_,_,rfl,rfl,W,hlp,by show 0≤1001;decide⟩,?_⟩
    clear W hlp
    rintro k σ H2 ⟨a,m,gs,pas,e,here,hwk,rfl,W,hlp,hpl⟩
    rw [←hwk]
    obtain ⟨ea,i1,i2⟩:=W.ins
    have done:(m,pas,e)=(mE,pasE,eE)→tRet (tTup (z0d (z1u CW "end" (z6q K CW CH) [] E0 (tVar 3) tNil) (z0d (z1u CW "told" (z2i K CW CH) [] E0 (tVar 3) tNil) (z0d (tCB (fun xs H Q=>∃a dx fs,xs=[.ref a]∧H a=some (.ins CW dx fs)∧z6n K CW CH [.ref a] H (fun v H1=>∃n:Nat,v=.int n∧n≤1000000∧Q (.int n) H1) E0) (z0d (tVar 3) tNil)) tNil))))
      { nx:=fun _ H'=>Q .non H',rt:=Q } [some (.ref l),some (.ref d),some (.int (steps:Nat)),some (.ref a.wk)] H2:=by
     intro he
     injection he with h1 h2
     injection h2 with h2 h3
     subst h1 h2 h3
     refine ⟨_,rfl,a.wk,a.dw,_,rfl,i1,rfl,a,H,rs,m,gs,pas,e,here,W,rfl,fun ea' hea=>?_⟩
     refine ⟨_,rfl,a.wk,a.dw,_,rfl,i1,rfl,a,H,rs,m,gs,pas,e,here,W,rfl,fun tl htl=>?_⟩
     have st:=zg htl (.lst m.sd)
     refine ⟨_,rfl,a.wk,a.dw,_,rfl,st _ _ i1,a,H,rs,m,gs,pas,e,here,W.same' st,rfl,pas.length,rfl,by lia,by show 3≤sizeLine;decide,fun t ht=>?_⟩
     have st2:=zg ht (.tup [.ref ea',.ref tl,.int (pas.length:Nat)])
     exact q t ea' tl _ ((W.same.trans st).trans st2) z6 (qa st2 (qa st hea)) (st2 _ _ z6)
    refine ⟨_,rfl,a.wk,a.dw,_,rfl,i1,rfl,a,H,rs,m,gs,pas,e,here,W,rfl,rfl,_,rfl,?_⟩
    cases here with
    | none=>
     have he:some (m,pas,e)=some (mE,pasE,eE):=by unfold jp at hlp;exact hlp
     exact iteF (iteF (done (kB he)))
    | some p=>
     refine iteT ⟨_,rfl,a.wk,a.dw,_,rfl,i1,a,H,rs,m,gs,pas,e,some p,W,rfl,pas.length,rfl,by lia,_,rfl,_,_,rfl,rfl,_,rfl,?_⟩
     by_cases hlt:pas.length < steps
     ·rw [ki (show ((pas.length:Nat):Int) < ((steps:Nat):Int) by lia)]
      cases k with
      | zero=>unfold jp at hlp;rw [kA hlt] at hlp;cases hlp
      | succ k=>
       unfold jp at hlp
       rw [kA hlt] at hlp
       by_cases heo:e=[.str "on"]
       case neg=>rw [kz heo] at hlp;cases hlp
       rw [kA heo] at hlp
       subst heo
       cases hst:ZG rs m gs pas p with
       | none=>rw [hst] at hlp;cases hlp
       | some r=>
        obtain ⟨m',gs',pas',e',here'⟩:=r
        rw [hst] at hlp
        dsimp only at hlp
        refine iteT ⟨fun σ' H'=>∃a1 m gs pas e here,a1.wk=a.wk∧σ'=[some (.ref l),some (.ref d),some (.int (steps:Nat)),some (.ref a.wk)]∧zL K H H' CW CH a1 rs m gs pas e here∧jp rs steps k m gs pas e here=some (mE,pasE,eE)∧pas.length≤1001,fun σ' H' h=>⟨k,ya _,h⟩,?_⟩
        exact ⟨_,rfl,a.wk,a.dw,_,rfl,i1,rfl,a,H,rs,m,gs,pas,p,m',gs',pas',e',here',rfl,W,hst,fun a' H' ha W'=>⟨a',m',gs',pas',e',here',ha,rfl,W',hlp,z4i hst⟩⟩
     ·rw [kh (show ¬((pas.length:Nat):Int) < ((steps:Nat):Int) by lia)]
      have he:some (m,pas,e)=some (mE,pasE,eE):=by
       cases k with
       | zero=>unfold jp at hlp;rw [kz hlt] at hlp;exact hlp
       | succ k=>unfold jp at hlp;rw [kz hlt] at hlp;exact hlp
      exact iteF (done (kB he))
end
structure z7t (rs:List Row) (S:Fnd):Prop where
 len:S.length=rs.length
 zero:S[0]?=some (some (0,[]))
 here:∀(p:Nat) r s,rs[p]?=some r→S[p]?=some (some s)→ZT rs p r s.1 s.2.getLast?=[]∧s.2.length≤1000
 next:∀(p:Nat) r s,rs[p]?=some r→S[p]?=some (some s)→∀x s',(x,s')∈Qa rs p r s→∃j:Nat,x=.int (j:Int)∧S[j]?=some (some s')
def Sub (f S:Fnd):Prop:=∀(p:Nat) s,f[p]?=some (some s)→S[p]?=some (some s)
noncomputable def J4 (f:Fnd):Nat:=(f.filter Option.isNone).length
theorem Q9:∀{f:Fnd} {j:Nat} {s:Sta},f[j]?=some none→J4 (f.set j (some s))+1=J4 f
 | [],_,_,h=>by cases h
 | o :: f,0,s,h=>by
  cases h
  rfl
 | o :: f,j+1,s,h=>by
  have ih:=Q9 (f:=f) (j:=j) (s:=s) h
  unfold J4 at ih ⊢
  rw [List.set_cons_succ,List.filter_cons,List.filter_cons]
  cases o with
  | none=>simp only [Option.isNone_none,if_true,kO];lia
  | some x=>simp only [Option.isNone_some,Bool.false_eq_true,if_false];exact ih
theorem QX {S:Fnd}:∀(ns:List (V × Sta)) (f:Fnd) (w:List Nat),(∀x s',(x,s')∈ns→∃j:Nat,x=.int (j:Int)∧S[j]?=some (some s'))→f.length=S.length→Sub f S→(∀p∈w,∃s,f[p]?=some (some s))→
  ∃f' w',Qs ns f w=some (f',w')∧f'.length=S.length∧Sub f' S∧(∀p∈w',∃s,f'[p]?=some (some s))∧J4 f'+w'.length=J4 f+w.length∧(∀(p:Nat) s,f[p]?=some (some s)→f'[p]?=some (some s))
 | [],f,w,_,hl,hs,hw=>⟨f,w,rfl,hl,hs,hw,rfl,fun _ _ e=>e⟩
 | (x,s) :: ns,f,w,hn,hl,hs,hw=>by
  obtain ⟨j,rfl,hj⟩:=hn x s (kP ..)
  have hjl:j < f.length:=by rw [hl];exact (kf.mp hj).1
  have hn':=fun x s' h=>hn x s' (kQ _ h)
  unfold Qs
  dsimp only
  rw [kA (by lia),kZ]
  cases e:f[j]? with
  | none=>rw [kK hjl] at e;cases e
  | some o=>
   cases o with
   | none=>
    dsimp only
    have keep:∀(p:Nat) s0,f[p]?=some (some s0)→(f.set j (some s))[p]?=some (some s0):=fun p s0 h=>by
     by_cases hp:p=j
     ·subst hp;rw [e] at h;cases h
     ·rw [List.getElem?_set_ne (Ne.symm hp)];exact h
    obtain ⟨f',w',h1,h2,h3,h4,h5,h6⟩:=QX ns (f.set j (some s)) (w++[j]) hn' (by rw [List.length_set];exact hl)
     (fun p s0 h=>by
      by_cases hp:p=j
      ·subst hp
       rw [List.getElem?_set_self hjl] at h
       cases h
       exact hj
      ·rw [List.getElem?_set_ne (Ne.symm hp)] at h
       exact hs p s0 h)
     (fun p hp=>by
      rcases kR.mp hp with h | h
      ·obtain ⟨s0,h⟩:=hw p h
       exact ⟨s0,keep p s0 h⟩
      ·rw [ko.mp h]
       exact ⟨s,List.getElem?_set_self hjl⟩)
    refine ⟨f',w',h1,h2,h3,h4,?_,fun p s0 h=>h6 p s0 (keep p s0 h)⟩
    have:=Q9 (s:=s) e
    rw [kl,kF] at h5
    lia
   | some s'=>
    have e2:s'=s:=by
     have:=hs j s' e
     rw [hj] at this
     cases this
     rfl
    dsimp only
    rw [kA e2]
    exact QX ns f w hn' hl hs hw
theorem z67 {rs:List Row} {S:Fnd} (T:z7t rs S):∀(n:Nat) (f:Fnd) (w:List Nat),f.length=S.length→Sub f S→(∀p∈w,∃s,f[p]?=some (some s))→J4 f+w.length≤n→
  ∃fin,bfs rs n f w=some fin∧fin.length=S.length∧Sub fin S
 | n,f,[],hl,hs,_,_=>⟨f,by cases n <;> rfl,hl,hs⟩
 | 0,f,p :: w,_,_,_,hn=>by simp at hn
 | n+1,f,p :: w,hl,hs,hw,hn=>by
  obtain ⟨s,hp⟩:=hw p (kP ..)
  have hS:=hs p s hp
  have hpl:p < rs.length:=by rw [←T.len];exact (kf.mp hS).1
  have er:rs[p]?=some rs[p]:=kK hpl
  obtain ⟨h1,h2⟩:=T.here p rs[p] s er hS
  unfold bfs
  rw [er,hp]
  dsimp only
  rw [kA ⟨by rw [h1];rfl,h2⟩]
  obtain ⟨f',w',e1,e2,e3,e4,e5,_⟩:=QX (Qa rs p rs[p] s) f w (T.next p rs[p] s er hS) hl hs fun q hq=>hw q (kQ _ hq)
  rw [e1]
  dsimp only
  rw [kO] at hn
  exact z67 T n f' w' e2 e3 e4 (by lia)
theorem JB:∀n:Nat,J4 (List.replicate n none)=n
 | 0=>rfl
 | n+1=>by
  have ih:=JB n
  unfold J4 at ih ⊢
  rw [List.replicate_succ,List.filter_cons]
  simp only [Option.isNone_none,if_true,kO]
  lia
theorem z2f {rs:List Row} {S:Fnd} (T:z7t rs S) (hn:rs.length≤299):∃fin,qU rs=some fin∧fin.length=rs.length∧Sub fin S:=by
 have h0:0 < rs.length:=by rw [←T.len];exact (kf.mp T.zero).1
 have e0:(List.replicate rs.length (none:Option Sta))[0]?=some none:=by rw [List.getElem?_replicate,kA h0]
 have hset:=Q9 (s:=((0,[]):Sta)) e0
 rw [JB] at hset
 obtain ⟨fin,h1,h2,h3⟩:=z67 T 300 ((List.replicate rs.length none).set 0 (some (0,[]))) [0] (by rw [List.length_set,List.length_replicate,T.len])
  (fun p s h=>by
   by_cases hp:p=0
   ·subst hp
    rw [List.getElem?_set_self (by rw [List.length_replicate];exact h0)] at h
    cases h
    exact T.zero
   ·rw [List.getElem?_set_ne (Ne.symm hp),List.getElem?_replicate] at h
    split at h
    ·cases h
    ·cases h)
  (fun p hp=>by
   rw [ko.mp hp]
   exact ⟨_,List.getElem?_set_self (by rw [List.length_replicate];exact h0)⟩)
  (by show J4 _+1≤300;lia)
 exact ⟨fin,h1,by rw [h2,T.len],h3⟩
noncomputable def Qw (r:Row) (s:Sta):Option Sta:=if inT r.op qc=true then none else some (zV r s.1,qG r s.1 s.2 (tabI qj r.op))
noncomputable def tgts (r:Row) (s:Sta):List (Int × Sta):=
 (if inT r.op jumping=true then [(argM r.arg,((if inT r.op leaving=true then s.1 else zV r s.1),s.2))] else [])++
 (if inT r.op faulting=true then (match s.2.getLast? with
  | some g=>[(g.1,(g.2+1,s.2.dropLast))]
  | none=>[]) else [])
noncomputable def jx (r:Row) (s:Sta):Bool:= !decide (s.1 < qZ r)&& !Qy r s.2.getLast?&& !jQ r s.1 s.2.getLast?&&decide (s.2.length≤1000)
noncomputable def chk (Γ:Int→Option Sta):List Row→Option Sta→Option (Option Sta)
 | [],c=>some c
 | r :: l,c=>
  if r.op="label" then (match Γ (argM r.arg),c with
   | some s,some s'=>if s=s'∧jx r s=true then chk Γ l (some s) else none
   | some s,none=>if jx r s=true then chk Γ l (some s) else none
   | none,none=>chk Γ l none
   | none,some _=>none)
  else (match c with
   | none=>chk Γ l none
   | some s=>if jx r s=true∧(tgts r s).all (fun t=>decide (Γ t.1=some t.2))=true then chk Γ l (Qw r s) else none)
noncomputable def stOf (Γ:Int→Option Sta):List Row→Option Sta→Fnd
 | [],_=>[]
 | r :: l,c=>
  if r.op="label" then Γ (argM r.arg) :: stOf Γ l (Γ (argM r.arg))
  else c :: stOf Γ l (match c with
   | none=>none
   | some s=>Qw r s)
theorem ZM (Γ:Int→Option Sta):∀(l:List Row) (c:Option Sta),(stOf Γ l c).length=l.length
 | [],_=>rfl
 | r :: l,c=>by
  unfold stOf
  split
  ·rw [kO,ZM Γ l,kO]
  ·rw [kO,ZM Γ l,kO]
theorem z5m (Γ:Int→Option Sta) (r:Row) (l:List Row) (c:Option Sta):chk Γ (r :: l) c=
  if r.op="label" then (match Γ (argM r.arg),c with
   | some s,some s'=>if s=s'∧jx r s=true then chk Γ l (some s) else none
   | some s,none=>if jx r s=true then chk Γ l (some s) else none
   | none,none=>chk Γ l none
   | none,some _=>none)
  else (match c with
   | none=>chk Γ l none
   | some s=>if jx r s=true∧(tgts r s).all (fun t=>decide (Γ t.1=some t.2))=true then chk Γ l (Qw r s) else none):=rfl
structure Fits (Γ:Int→Option Sta) (l:List Row) (S:Fnd) (i:Nat) (r:Row) (s:Sta):Prop where
 ok:jx r s=true
 tg:∀t∈tgts r s,Γ t.1=some t.2
 nx:∀s',Qw r s=some s'→S[i+1]?=some (some s')
theorem z0w:inT "label" qc=false:=by trivial
theorem z1N (r:Row) (h:r.op="label") (s:Sta):Qw r s=some s:=by
 unfold Qw
 rw [h,z0w,kz ka]
 unfold zV
 rw [h]
 have e1:tabI qB "label"=0:=by trivial
 have e2:tabI qE "label"=0:=by trivial
 have e3:tabI qj "label"=0:=by trivial
 rw [e1,e2,e3]
 unfold qG
 rw [kz (by decide),kz (by decide)]
 simp
theorem z1L (r:Row) (h:r.op="label") (s:Sta):tgts r s=[]:=by
 unfold tgts
 have e1:inT "label" jumping=false:=by trivial
 have e2:inT "label" faulting=false:=by trivial
 rw [h,e1,e2,kz ka,kz ka]
 rfl
theorem z0e {Γ:Int→Option Sta} {l:List Row} {s:Sta} {c':Option Sta} (h:chk Γ l (some s)=some c') (hc:c'=none):(stOf Γ l (some s))[0]?=some (some s):=by
 cases l with
 | nil=>cases h;cases hc
 | cons r l=>
  unfold chk at h
  unfold stOf
  by_cases hl:r.op="label"
  ·rw [kA hl] at h
   rw [kA hl]
   cases e:Γ (argM r.arg) with
   | none=>rw [e] at h;cases h
   | some s2=>
    rw [e] at h
    dsimp only at h
    by_cases hz:s2=s∧jx r s2=true
    ·rw [hz.1];rfl
    ·rw [kz hz] at h;cases h
  ·rw [kz hl]
   rfl
theorem ZR {Γ:Int→Option Sta}:∀(l:List Row) (c:Option Sta),chk Γ l c=some none→∀(i:Nat) r s,l[i]?=some r→(stOf Γ l c)[i]?=some (some s)→Fits Γ l (stOf Γ l c) i r s
 | [],_,_,i,r,s,hr,_=>by cases hr
 | r0 :: l,c,h,i,r,s,hr,hs=>by
  unfold chk at h
  unfold stOf at hs ⊢
  by_cases hl:r0.op="label"
  ·rw [kA hl] at h hs ⊢
   have go:∀{c2:Option Sta},Γ (argM r0.arg)=c2→chk Γ l c2=some none→(∀s0,c2=some s0→jx r0 s0=true)→Fits Γ (r0 :: l) (Γ (argM r0.arg) :: stOf Γ l (Γ (argM r0.arg))) i r s:=by
    intro c2 e h2 hok
    rw [e] at hs ⊢
    cases i with
    | zero=>
     cases hr
     have es:c2=some s:=by simpa using hs
     subst es
     refine ⟨hok s rfl,fun t ht=>?_,fun s' hn=>?_⟩
     ·rw [z1L r0 hl] at ht;cases ht
     ·rw [z1N r0 hl] at hn
      cases hn
      exact z0e h2 rfl
    | succ i=>
     have F:=ZR l c2 h2 i r s hr hs
     exact ⟨F.ok,F.tg,F.nx⟩
   cases e:Γ (argM r0.arg) with
   | none=>
    rw [e] at h
    cases c with
    | some s'=>cases h
    | none=>have:=go e h (fun _ z=>by cases z);rw [e] at this;exact this
   | some s2=>
    rw [e] at h
    cases c with
    | some s'=>
     dsimp only at h
     by_cases hz:s2=s'∧jx r0 s2=true
     ·rw [kA hz] at h
      have:=go e h (fun _ z=>by cases z;exact hz.2);rw [e] at this;exact this
     ·rw [kz hz] at h;cases h
    | none=>
     dsimp only at h
     by_cases hz:jx r0 s2=true
     ·rw [kA hz] at h
      have:=go e h (fun _ z=>by cases z;exact hz);rw [e] at this;exact this
     ·rw [kz hz] at h;cases h
  ·rw [kz hl] at h hs ⊢
   cases c with
   | none=>
    dsimp only at h hs ⊢
    cases i with
    | zero=>cases hs
    | succ i=>
     have F:=ZR l none h i r s hr hs
     exact ⟨F.ok,F.tg,F.nx⟩
   | some s0=>
    dsimp only at h hs ⊢
    by_cases hz:jx r0 s0=true∧(tgts r0 s0).all (fun t=>decide (Γ t.1=some t.2))=true
    case neg=>rw [kz hz] at h;cases h
    rw [kA hz] at h
    cases i with
    | zero=>
     cases hr
     cases hs
     refine ⟨hz.1,fun t ht=>kC (List.all_eq_true.mp hz.2 t ht),fun s' hn=>?_⟩
     rw [hn] at h ⊢
     exact z0e h rfl
    | succ i=>
     have F:=ZR l _ h i r s hr hs
     exact ⟨F.ok,F.tg,F.nx⟩
theorem QT {Γ:Int→Option Sta}:∀(l:List Row) (c:Option Sta) (q:Nat) (r:Row),l[q]?=some r→r.op="label"→(stOf Γ l c)[q]?=some (Γ (argM r.arg))
 | [],_,_,_,h,_=>by cases h
 | r0 :: l,c,0,r,h,hl=>by
  cases h
  unfold stOf
  rw [kA hl]
  rfl
 | r0 :: l,c,q+1,r,h,hl=>by
  unfold stOf
  split
  ·exact QT l _ q r h hl
  ·exact QT l _ q r h hl
theorem z8k {rs:List Row} {m:Int} {q:Nat} (h:zF rs m=some q):∃r,rs[q]?=some r∧r.op="label"∧argM r.arg=m:=by
 unfold zF at h
 obtain ⟨hq,hp,_⟩:=List.findIdx?_eq_some_iff_getElem.mp h
 refine ⟨rs[q],kK hq,?_⟩
 unfold labP at hp
 rw [yc,yd,yd] at hp
 exact ⟨hp.1,by rw [hp.2];rfl⟩
theorem z4d {rs:List Row} {Γ:Int→Option Sta} (hΓ:∀m s,Γ m=some s→(zF rs m).isSome=true) (h:chk Γ rs (some (0,[]))=some none):z7t rs (stOf Γ rs (some (0,[]))):=by
 have hlab:∀m s,Γ m=some s→∃q:Nat,labV rs m=.int (q:Int)∧q < rs.length∧(stOf Γ rs (some (0,[])))[q]?=some (some s):=by
  intro m s e
  obtain ⟨q,hq⟩:=Option.isSome_iff_exists.mp (hΓ m s e)
  obtain ⟨r,hr,ho,ha⟩:=z8k hq
  refine ⟨q,by unfold labV;rw [hq],(kf.mp hr).1,?_⟩
  rw [QT rs _ q r hr ho,ha,e]
 have F:=ZR rs (some (0,[])) h
 have lead:∀(p:Nat) r s,rs[p]?=some r→(stOf Γ rs (some (0,[])))[p]?=some (some s)→∀m∈qF rs p r s.1 s.2.getLast?,∃j:Nat,m.1=.int (j:Int)∧j < rs.length∧(stOf Γ rs (some (0,[])))[j]?=some (some (m.2.1,qG r s.1 s.2 m.2.2)):=by
  intro p r s hr hs m hm
  have f:=F p r s hr hs
  have hok:=f.ok
  unfold jx at hok
  simp only [yc,Bool.not_eq_true',yd,decide_eq_false_iff_not] at hok
  obtain ⟨⟨⟨k1,k2⟩,k3⟩,k4⟩:=hok
  unfold qF at hm
  rw [kh k1,kz ka,k2,kz ka] at hm
  rcases kR.mp hm with hm | hm
  ·rcases kR.mp hm with hm | hm
   ·unfold mv1 at hm
    by_cases hn:inT r.op qc=true
    ·rw [kA hn] at hm;cases hm
    ·rw [kz hn] at hm
     rw [ko.mp hm]
     have e:=f.nx (zV r s.1,qG r s.1 s.2 (tabI qj r.op)) (by unfold Qw;rw [kz hn])
     refine ⟨p+1,by push_cast;rfl,?_,e⟩
     have:=(kf.mp e).1
     rw [ZM] at this
     exact this
   ·unfold mv2 at hm
    by_cases hj:inT r.op jumping=true
    ·rw [kA hj] at hm
     rw [ko.mp hm]
     obtain ⟨q,h1,h2,h3⟩:=hlab _ _ (f.tg (argM r.arg,((if inT r.op leaving=true then s.1 else zV r s.1),s.2)) (by
      unfold tgts
      rw [kA hj]
      exact kN _ (ko.mpr rfl)))
     refine ⟨q,h1,h2,?_⟩
     have e0:qG r s.1 s.2 0=s.2:=by unfold qG;rw [kz (by decide),kz (by decide)]
     show _=some (some ((if inT r.op leaving=true then s.1 else zV r s.1),qG r s.1 s.2 0))
     rw [e0]
     exact h3
    ·rw [kz hj] at hm;cases hm
  ·unfold mv3 at hm
   by_cases hf:inT r.op faulting=true
   ·rw [kA hf] at hm
    cases hg:s.2.getLast? with
    | none=>rw [hg] at hm;cases hm
    | some g=>
     rw [hg] at hm
     rw [ko.mp hm]
     obtain ⟨q,h1,h2,h3⟩:=hlab _ _ (f.tg (g.1,(g.2+1,s.2.dropLast)) (by
      unfold tgts
      rw [kA hf,hg]
      exact kM _ (ko.mpr rfl)))
     refine ⟨q,h1,h2,?_⟩
     have e0:qG r s.1 s.2 (-1)=s.2.dropLast:=by unfold qG;rw [kz (by decide),kA rfl]
     show _=some (some (g.2+1,qG r s.1 s.2 (-1)))
     rw [e0]
     exact h3
   ·rw [kz hf] at hm;cases hm
 refine ⟨ZM _ _ _,z0e h rfl,fun p r s hr hs=>?_,fun p r s hr hs x s' hx=>?_⟩
 ·have hok:=(F p r s hr hs).ok
  unfold jx at hok
  simp only [yc,Bool.not_eq_true',yd,decide_eq_false_iff_not] at hok
  obtain ⟨⟨⟨k1,k2⟩,k3⟩,k4⟩:=hok
  refine ⟨?_,k4⟩
  have hend:inV (.int (rs.length:Nat)) ((qF rs p r s.1 s.2.getLast?).map (·.1))=false:=by
   unfold inV
   rw [List.any_eq_false]
   intro y hy
   obtain ⟨m,hm,rfl⟩:=ye.mp hy
   obtain ⟨j,h1,h2,_⟩:=lead p r s hr hs m hm
   rw [h1]
   intro z
   have z:decide ((j:Int)=(rs.length:Int))=true:=by
    first
     | exact z
     | simpa [eqV] using z
   have:=kC z
   lia
  unfold ZT ZU
  rw [kh k1,k2,k3,hend]
  rfl
 ·unfold Qa at hx
  obtain ⟨m,hm,e⟩:=ye.mp hx
  cases e
  obtain ⟨j,h1,_,h3⟩:=lead p r s hr hs m hm
  exact ⟨j,h1,h3⟩
noncomputable def z1b:List Str:=["Oops","Zero","Unset","Type","Big"]
noncomputable def okV:V→Bool
 | .non=>true
 | .bl _=>true
 | .int i=> !big i
 | .str z=>decide (z∈z1b)
 | _=>false
def okVs (l:List V):Prop:=∀v∈l,okV v=true
theorem QI:∀z∈z1b,jK (.str z)=true∧Qz (.str z)=true:=by trivial
theorem z4C {v:V} (h:okV v=true):jK v=true:=by
 cases v with
 | non=>rfl
 | bl b=>rfl
 | int i=>rfl
 | str z=>exact (QI z (kC h)).1
 | _=>cases h
theorem okVs.nil:okVs []:=fun _ h=>by cases h
theorem okVs.app {a b:List V} (x:okVs a) (y:okVs b):okVs (a++b):=fun v h=>(kR.mp h).elim (x v) (y v)
theorem okVs.one {v:V} (h:okV v=true):okVs [v]:=fun w hw=>by rw [ko.mp hw];exact h
theorem okVs.last {a:List V} {v:V} (x:okVs (a++[v])):okV v=true:=x v (kM _ (ko.mpr rfl))
theorem z2g {l:List V} (h:1≤l.length):∃ys x,l=ys++[x]:=by
 rcases List.eq_nil_or_concat l with e | ⟨ys,x,e⟩
 ·rw [e] at h;cases h
 ·exact ⟨ys,x,by rw [e,List.concat_eq_append]⟩
theorem z4s (l:List V):l <+: l:=List.prefix_refl l
theorem QW {a n:Nat} (h:a≤n) (hn:n≤1000):qp a=true:=ki (by lia)
def Scr (K:ky) (H:Hp) (a:Addr) (xs:List V):Prop:=
 (∃o,H a=some (.frz o (.lst xs)))∨∃(o:Obj) (its:Array Value) (n:Nat),K.lookup a=some o∧o.cls=.type "list"∧o.dict=none∧o.data=.seq its n∧its.size≤sizeLine∧Vals xs its.toList
theorem Scr.sq {K:ky} {H:Hp} {a:Addr} {xs:List V} (h:Scr K H a xs):SqL K H a xs:=by
 rcases h with ⟨o,h⟩ | h
 ·exact .inl (.inr ⟨o,h⟩)
 ·exact .inr h
theorem Scr.keep {K:ky} {H H':Hp} {a:Addr} {xs:List V} (h:Scr K H a xs) (k:∀o u,H a=some (.frz o u)→H' a=some (.frz o u)):Scr K H' a xs:=by
 rcases h with ⟨o,h⟩ | h
 ·exact .inl ⟨o,k _ _ h⟩
 ·exact .inr h
theorem Scr.keep1 {K:ky} {H H':Hp} {a t:Addr} {xs ys:List V} (h:Scr K H a xs) (k:jh H H' t) (ht:H t=some (.lst ys)):Scr K H' a xs:=h.keep fun o u e=>k _ _ e (zA e ht nofun)
noncomputable def qo (c:Nat) (cells:List Int):List V:=.int (c:Int) :: cells.map V.int
section
def Jn (K:ky):Sp:=fun vs H Q _=>∃(a t:Addr) (ns:List Int) (c:Nat) (cells:List Int) (many:Int),vs=[.ref a,.ref t,.int many]∧Scr K H a (ns.map V.int)∧ns.length≤1000∧cells.length=ns.length∧H t=some (.lst (qo c cells))∧c≤100000∧1≤many∧many≤1000∧
 ∀(i:Int) (cells':List Int) H',0≤i→i < many→cells'.length=ns.length→H' t=some (.lst (qo (c+1) cells'))→jh H H' t→Q (.int i) H'
theorem z2H:zf ["_law_script","_law_town_here","_law_many","_law_at","_law_left","_law_number"] ["_law_script","_law_town_here","_law_many"] (zb (top 113)):=fsM
theorem z4P {cells:List Int} {i:Int} (h0:0≤i) (h1:i < (cells.length:Int)) (c:Nat):∃z,atI (qo c cells) (1+i)=some (.int z):=by
 obtain ⟨j,rfl⟩:=kY h0
 have hj:j < cells.length:=by lia
 have e:(1:Int)+(j:Int)=((j+1:Nat):Int):=by lia
 refine ⟨cells[j],?_⟩
 rw [e]
 refine zj ?_
 unfold qo
 rw [List.getElem?_cons_succ,List.getElem?_map,kK hj]
 rfl
theorem z1T {ns:List Int} {i:Int} (h0:0≤i) (h1:i < (ns.length:Int)):∃z,atI (ns.map V.int) i=some (.int z):=by
 obtain ⟨j,rfl⟩:=kY h0
 have hj:j < ns.length:=by lia
 refine ⟨ns[j],zj ?_⟩
 rw [List.getElem?_map,kK hj]
 rfl
theorem z4k {c:Nat} {cells:List Int} {i:Int} (h0:0≤i) (h1:i < (cells.length:Int)) (z:Int):∃j cells',ixN (qo c cells).length (1+i)=some j∧(qo c cells).set j (.int z)=qo c cells'∧cells'.length=cells.length:=by
 obtain ⟨j,rfl⟩:=kY h0
 refine ⟨j+1,cells.set j z,?_,?_,by simp⟩
 ·unfold ixN qo
  rw [kA (by lia),kA (by simp;lia)]
  congr 1
  lia
 ·unfold qo
  rw [List.set_cons_succ,List.map_set]
theorem ix0 {c:Nat} {cells:List Int}:ixN (qo c cells).length 0=some 0:=by
 unfold ixN qo
 rw [kA (by decide),kA (by simp <;> lia)]
 rfl
theorem z7h (D:zk K mg "_law_draw" (top 113)) (G:Glo mg):FN P w K mg base 1 "_law_draw" ["_law_script","_law_town_here","_law_many"] (Jn K):=by
 refine FN.o D z2H fun f cdv A outer s H vs Q E hr h=>?_
 obtain ⟨a,t,ns,c,cells,many,rfl,hS,hns,hcl,hT,hc,hm1,hm2,q⟩:=h
 have hu:A.units+3 < cLine:=by have:=hr.units0;exact this
 refine ⟨_,z7 (j6 (zN qO (zD zG (pv 1) zh (fun _ _=>rfl)) zh) (ZA (pv 1) zh j5))
  (z7 (zQ (zl (z8a (hr.units0)) (pv 0) (qv z8) (zo _))
   (ze (zi (zN Q6 (zN Q8 (zN JA (zN JA (zD zG (pv 1) zh (fun _ _=>rfl)) (zD zG (pv 1) zh (fun _ _=>rfl))) zh) zh) (pv 2)))) zt)
  (z7 (zw (i:=3) z2H.nd rfl (Or.inl rfl) (zN Q6 (zD zG (pv 1) zh (fun _ _=>rfl)) (zq zu rfl G.len zK (z0 (pv 0) z8))))
  (z7 (zw (i:=4) z2H.nd rfl (Or.inl rfl) (zD zG (pv 1) (zN qO zh (pv 3)) (fun _ _=>rfl)))
  (z7 (zQ (PW.pt (Jt (zl z88 (zD zG (pv 0) (pv 3) (fun _ _=>rfl)) (zN z33 zh zh) (zo _)) (Q0 (zl z34 (pv 4) zh (zo _)))))
   (z7 (j6 (zN Q8 (pv 4) (pv 2)) (ZA (pv 1) (zN qO zh (pv 3)) j5)) (ze (zi (zN Q6 (pv 4) (pv 2))))) zt)
  (z7 (zw (i:=5) z2H.nd rfl (Or.inl rfl) (zN Q6 (zN qO (zD zG (pv 0) (pv 3) (fun _ _=>rfl)) (zN JA zh (zD zG (pv 1) zh (fun _ _=>rfl)))) zh))
  (z7 (zw (i:=5) z2H.nd rfl (Or.inl rfl) (zN Q6 (zN z33 (pv 5) zh) zh))
  (ze (zi (zN Q6 (zN Q8 (zN Q6 (zN qO (zN JA (zN Q8 (pv 5) zh) zh) (pv 5)) zh) zh) (pv 2)))))))))),?_⟩
 have hmod:∀x:Int,0≤x % many∧x % many < many:=fun x=>⟨Int.emod_nonneg _ (by lia),Int.emod_lt_of_pos _ (by lia)⟩
 have cdm:CDiv 0 many:=⟨by lia,by lia⟩
 refine ⟨_,rfl,t,_,_,_,rfl,rfl,SqL.of hT,zj (j:=0) rfl,_,_,rfl,rfl,?_⟩
 refine ⟨_,rfl,t,_,_,0,rfl,rfl,hT,ix0,?_⟩
 have e1:(qo c cells).set 0 (V.int ((c:Int)+1))=qo (c+1) cells:=by
  unfold qo
  rw [List.set_cons_zero]
  rfl
 rw [e1]
 generalize hH1:upd H t (.lst (qo (c+1) cells))=H1
 have hT1:H1 t=some (.lst (qo (c+1) cells)):=by rw [←hH1];exact z6
 have k1:jh H H1 t:=fun b o e hb=>by rw [←hH1,zd hb];exact e
 have hS1:=hS.keep1 k1 hT
 refine ⟨_,rfl,by show 0≤sizeLine;decide,fun p hp=>?_⟩
 have s2:Same H1 (upd H1 p (.lst [])):=zg hp _
 have hT2:=s2 _ _ hT1
 have hS2:Scr K (upd H1 p (.lst [])) a (ns.map V.int):=hS1.keep fun o u e=>s2 _ _ e
 have k2:jh H (upd H1 p (.lst [])) t:=fun b o e hb=>s2 _ _ (k1 b o e hb)
 generalize hH2:upd H1 p (.lst [])=H2 at *
 have hp2:H2 p=some (.lst []):=by rw [←hH2];exact z6
 refine ⟨a,p,_,rfl,rfl,hS2.sq,SqL.of hp2,_,rfl,?_⟩
 refine ite2 (fun ce=>?_) (fun ce=>?_)
 ·refine ⟨_,rfl,t,_,_,_,rfl,rfl,SqL.of hT2,zj (j:=0) rfl,_,rfl,t,_,_,_,rfl,rfl,SqL.of hT2,zj (j:=0) rfl,_,_,rfl,rfl,.inl ⟨by lia,by lia⟩,_,_,rfl,rfl,.inr ⟨by decide,by decide⟩,_,_,rfl,rfl,⟨by decide,by decide⟩,_,rfl,_,_,rfl,rfl,by lia,?_⟩
  exact q _ cells H2 (hmod _).1 (hmod _).2 hcl hT2 k2
 ·have hne:ns≠[]:=fun z=>ce (by rw [z];rfl)
  have hpos:0 < ns.length:=List.length_pos_iff.mpr hne
  refine ⟨_,rfl,t,_,_,_,rfl,rfl,SqL.of hT2,zj (j:=0) rfl,_,rfl,a,_,rfl,.inl hS2.sq,_,_,rfl,rfl,by rw [kj];lia,?_⟩
  rw [kj]
  have a0:0≤((c+1:Nat):Int) % (ns.length:Int):=Int.emod_nonneg _ (by lia)
  have a1:((c+1:Nat):Int) % (ns.length:Int) < (ns.length:Int):=Int.emod_lt_of_pos _ (by lia)
  obtain ⟨z,hz⟩:=z4P (cells:=cells) a0 (by rw [hcl];exact a1) (c+1)
  obtain ⟨y,hy⟩:=z1T (ns:=ns) a0 a1
  refine ⟨_,rfl,_,rfl,_,_,rfl,rfl,t,_,_,_,rfl,rfl,SqL.of hT2,hz,?_⟩
  refine ⟨_,rfl,_,rfl,a,_,_,_,rfl,rfl,hS2.sq,hy,_,_,rfl,rfl,⟨by decide,by decide,by decide⟩,_,_,rfl,rfl,_,rfl,?_⟩
  have rest:tSeq (tAsg (tOp (rI (fun _ j=>0 < j) fun i j=>.int (i % j)) (tOp (rI0 fun i j=>.int (i+j)) (tOp (rIxL K) (tVar 0) (tVar 3)) (tOp (rI CMul fun i j=>.int (i * j)) (tC (.int 104729)) (tOp (rIxL K) (tVar 1) (tC (.int 0))))) (tC (.int 4294967291))) (z3B 5))
    (tSeq (tAsg (tOp (rI (fun _ j=>0 < j) fun i j=>.int (i % j)) (tOp (rI CPow fun i j=>.int (i ^ j.toNat)) (tVar 5) (tC (.int 5))) (tC (.int 4294967279))) (z3B 5))
    (tRet (tOp (rI (fun _ j=>0 < j) fun i j=>.int (i % j)) (tOp (rI CDiv fun i j=>.int (i / j)) (tOp (rI (fun _ j=>0 < j) fun i j=>.int (i % j)) (tOp (rI0 fun i j=>.int (i+j)) (tOp (rI CMul fun i j=>.int (i * j)) (tOp (rI CDiv fun i j=>.int (i / j)) (tVar 5) (tC (.int 64))) (tC (.int 69621))) (tVar 5)) (tC (.int 4294967231))) (tC (.int 8))) (tVar 2))))
    { nx:=fun _ H'=>Q .non H',rt:=Q } [some (.ref a),some (.ref t),some (.int many),some (.int (((c+1:Nat):Int) % (ns.length:Int))),some (.int z),none] H2:=by
   refine ⟨_,rfl,_,rfl,a,_,_,_,rfl,rfl,hS2.sq,hy,_,rfl,t,_,_,_,rfl,rfl,SqL.of hT2,zj (j:=0) rfl,_,_,rfl,rfl,.inl ⟨by decide,by decide⟩,_,_,rfl,rfl,_,_,rfl,rfl,(by show (0:Int) < 4294967291;decide),?_⟩
   have b0:0≤(y+104729 * ((c+1:Nat):Int)) % 4294967291:=Int.emod_nonneg _ (by decide)
   have b1:(y+104729 * ((c+1:Nat):Int)) % 4294967291 < 4294967291:=Int.emod_lt_of_pos _ (by decide)
   refine ⟨_,rfl,_,_,rfl,rfl,⟨by decide,by decide,?_⟩,_,_,rfl,rfl,(by show (0:Int) < 4294967279;decide),?_⟩
   ·show ((y+104729 * ((c+1:Nat):Int)) % 4294967291).natAbs < 2 ^ 64
    lia
   refine ⟨_,rfl,_,_,rfl,rfl,⟨by decide,by decide⟩,_,_,rfl,rfl,.inr ⟨by decide,by decide⟩,_,rfl,_,_,rfl,rfl,_,_,rfl,rfl,(by show (0:Int) < 4294967231;decide),_,_,rfl,rfl,⟨by decide,by decide⟩,_,rfl,_,_,rfl,rfl,by lia,?_⟩
   exact q _ cells H2 (hmod _).1 (hmod _).2 hcl hT2 k2
  refine ite2 (fun c1=>?_) (fun c1=>?_)
  ·refine ⟨_,rfl,_,_,rfl,rfl,_,rfl,?_⟩
   refine ite2 (fun c2=>?_) (fun c2=>rest)
   obtain ⟨j,cells',hj,hset,hl'⟩:=z4k (c:=c+1) (cells:=cells) a0 (by rw [hcl];exact a1) (z / many)
   refine ⟨_,rfl,_,rfl,_,_,rfl,rfl,⟨by lia,by lia⟩,?_⟩
   refine ⟨_,rfl,_,rfl,_,_,rfl,rfl,t,_,_,j,rfl,rfl,hT2,hj,?_⟩
   rw [hset]
   refine ⟨_,rfl,_,rfl,_,_,rfl,rfl,by lia,?_⟩
   exact q _ cells' _ (hmod _).1 (hmod _).2 (hl'.trans hcl) z6 fun b o e hb=>by rw [zd hb];exact k2 b o e hb
  ·exact iteF rest
end
def FNd (P:Program) (w:World) (K:ky) (mg:Str→Option Value) (base:Heap) (k:Nat) (name:Str) (ps:List Str) (dvs:List V) (sp:Sp):Prop:=
 ∃f fd ds,mg name=some (.ref f)∧PySem.W.keepIn K (.ref f)=true∧Vals dvs ds∧jE K fd ps ds∧FnOk P w K mg base CX0 k f fd ps sp
def z4c (K:ky) (mg:Str→Option Value) (name:Str) (st:Stmt):Prop:=
 ∃(f T:Addr) (oc kV doc pm cdv ct:Value) (od an:Option Addr) (osl:Array (Option Value)) (to:Obj) (n:Nat),mg name=some (.ref f)∧PySem.W.keepIn K (.ref f)=true∧
  K.lookup f=some ⟨oc,od,.func (PySem.W.fnOf name name (qd st) (zH st) (zb st) (.ref T) kV doc pm an cdv ct),osl⟩∧PySem.W.codeIn K cdv name=true∧K.lookup T=some to∧to.data=.seq #[Value.none] n
section
variable {X:Cx} {k:Nat} {name:Str} {ps:List Str} {dvs:List V} {sp:Sp} {p pos:Pos} {e:Expr} {es:List Expr} {t:TA}
theorem Jx (F:FNd X.prog X.w X.K X.mg X.base k name ps dvs sp) (hr:Room k X.A) (hg:Gl X name) (ha:PA X (e :: es) t) (hdb:autoParam ((name == ("__debug__":Str))=false) aR._auto_2)
  (he:autoParam (starEach (e :: es) X.env=(false,eval e X.env) :: starEach es X.env) aR._auto_1) (hpl:autoParam ((backTo pos (starEach es X.env)).any (·.1)=false) aR._auto_1):
  PE X (.Call (.Name name p) (e :: es) [] pos) (z6i sp dvs E0 t):=by
 obtain ⟨f,fd,ds,a,b,v,c,d⟩:=F
 exact z32 d hr hg a b c v z1A ha hdb he hpl
end
section
def z1v:Sp:=fun vs H Q _=>∃(r:Addr) (op:Str) (x:V) (ys:List V),vs=[.ref r,.str op,x]∧H r=some (.lst ys)∧ys.length≤100000∧
 ∀a,H a=none→Q .non (upd (upd H a (.tup [.str op,x,.int (10+(ys.length:Int) / 2)])) r (.lst (ys++[.ref a])))
theorem z96:zf ["_law_rows","_law_op","_law_arg"] ["_law_rows","_law_op","_law_arg"] (zb (top 116)):=fsM
theorem z19 {n:Nat} (h:n≤100000):n < sizeLine:=Nat.lt_of_le_of_lt h (by decide)
theorem z8A (D:z4c K mg "_law_put" (top 116)) (G:Glo mg):FNd P w K mg base 1 "_law_put" ["_law_rows","_law_op","_law_arg"] [] z1v∧FNd P w K mg base 1 "_law_put" ["_law_rows","_law_op","_law_arg"] [.non] z1v:=by
 obtain ⟨f,T,oc,kV,doc,pm,cdv,ct,od,an,osl,to,n,m,kp,lk,hcd,lT,hT⟩:=D
 have ok:FnOk P w K mg base CX0 1 f (PySem.W.fnOf "_law_put" "_law_put" (qd (top 116)) (zH (top 116)) (zb (top 116)) (.ref T) kV doc pm an cdv ct) ["_law_rows","_law_op","_law_arg"] z1v:=by
  refine z8D lk hcd z96 (fun vs H Q E h=>by obtain ⟨r,op,x,ys,rfl,_⟩:=h;rfl) (fun A outer s H vs Q E hr h=>?_)
  obtain ⟨r,op,x,ys,rfl,hr1,hl,q⟩:=h
  refine ⟨_,PSs.nox (ze (zy (je (pv 0) (z0 (zI (z0 (pv 1) (z0 (pv 2) (z0 (zN qO zh (zN Q8 (zq zu rfl G.len zK (z0 (pv 0) z8)) zh)) z8)))) z8)))),?_⟩
  refine ⟨_,rfl,.inl ⟨rfl,_,SqL.of hr1⟩,_,rfl,_,rfl,_,rfl,r,_,rfl,.inl (SqL.of hr1),_,_,rfl,rfl,⟨by decide,by decide⟩,_,_,rfl,rfl,by show 3≤sizeLine;decide,fun a ha=>?_⟩
  have nra:r≠a:=zc hr1 ha
  exact ⟨r,ys,.ref a,rfl,rfl,by rw [zd nra];exact hr1,z19 hl,q a ha⟩
 have b3:jE K (PySem.W.fnOf "_law_put" "_law_put" (qd (top 116)) (zH (top 116)) (zb (top 116)) (.ref T) kV doc pm an cdv ct) ["_law_rows","_law_op","_law_arg"] []:=fun s us X hl=>by
  match us,hl with
  | [u1,u2,u3],_=>exact BindsTo.of_defaults (T:=T) (o:=to) (items:=#[Value.none]) rfl (X _ _ lT) hT rfl rfl
 have b2:jE K (PySem.W.fnOf "_law_put" "_law_put" (qd (top 116)) (zH (top 116)) (zb (top 116)) (.ref T) kV doc pm an cdv ct) ["_law_rows","_law_op","_law_arg"] [.none]:=fun s us X hl=>by
  have hl':us.length=2:=by simpa using hl
  match us,hl' with
  | [u1,u2],_=>exact BindsTo.of_defaults (T:=T) (o:=to) (items:=#[Value.none]) rfl (X _ _ lT) hT rfl rfl
 exact ⟨⟨f,_,[],m,kp,.nil,b3,ok⟩,⟨f,_,[.none],m,kp,.cons rfl .nil,b2,ok⟩⟩
def z2n (K:ky):Sp:=fun vs H Q _=>∃(a t p:Addr) (ns:List Int) (c:Nat) (cells:List Int) (xs:List V),vs=[.ref a,.ref t,.ref p]∧Scr K H a (ns.map V.int)∧ns.length≤1000∧cells.length=ns.length∧H t=some (.lst (qo c cells))∧c≤100000∧H p=some (.lst xs)∧p≠t∧1≤xs.length∧xs.length≤1000∧
 ∀(v:V) (cells':List Int) H',v∈xs→cells'.length=ns.length→H' t=some (.lst (qo (c+1) cells'))→jh H H' t→Q v H'
theorem z98:zf ["_law_script","_law_town_here","_law_some"] ["_law_script","_law_town_here","_law_some"] (zb (top 114)):=fsM
theorem z75 (D:zk K mg "_law_pick" (top 114)) (G:Glo mg) (FD:FN P w K mg base 1 "_law_draw" ["_law_script","_law_town_here","_law_many"] (Jn K)):FN P w K mg base 2 "_law_pick" ["_law_script","_law_town_here","_law_some"] (z2n K):=by
 refine FN.o D z98 fun f cdv A outer s H vs Q E hr h=>?_
 obtain ⟨a,t,p,ns,c,cells,xs,rfl,hS,hns,hcl,hT,hc,hp,hpt,hx1,hx2,q⟩:=h
 refine ⟨_,ze (zi (zD zG (pv 2) (zm FD hr rfl (z0 (pv 0) (z0 (pv 1) (z0 (zq zu rfl G.len zK (z0 (pv 2) z8)) z8)))) (fun _ _=>rfl))),?_⟩
 refine ⟨_,rfl,_,rfl,_,rfl,_,rfl,p,_,rfl,.inl (SqL.of hp),a,t,ns,c,cells,_,rfl,hS,hns,hcl,hT,hc,by lia,by lia,fun i cells' H' h0 h1 hl' hT' k'=>?_⟩
 obtain ⟨j,rfl⟩:=kY h0
 have hj:j < xs.length:=by lia
 exact ⟨p,_,_,xs[j],rfl,rfl,SqL.of (k' p _ hp hpt),zj (kK hj),q _ cells' H' (List.getElem_mem hj) hl' hT' k'⟩
def z2v (K:ky):Sp:=fun vs H Q _=>∃(a t:Addr) (ns:List Int) (c:Nat) (cells:List Int),vs=[.ref a,.ref t]∧Scr K H a (ns.map V.int)∧ns.length≤1000∧cells.length=ns.length∧H t=some (.lst (qo c cells))∧c≤100000∧
 ∀(v:V) (cells':List Int) H',jm v=true→okV v=true→cells'.length=ns.length→H' t=some (.lst (qo (c+1) cells'))→jh H H' t→Q v H'
theorem z97:zf ["_law_script","_law_town_here"] ["_law_script","_law_town_here"] (zb (top 115)):=fsM
theorem JY:∀v∈([.int 0,.int 1,.int 2,.int 3,.int (-4),.int 7,.int (10 ^ (9:Int).toNat),.bl true,.bl false,.non,.str "Oops",.str "Zero"]:List V),jm v=true∧okV v=true:=by trivial
theorem z59 (D:zk K mg "_law_const" (top 115)) (FP:FN P w K mg base 2 "_law_pick" ["_law_script","_law_town_here","_law_some"] (z2n K)):FN P w K mg base 3 "_law_const" ["_law_script","_law_town_here"] (z2v K):=by
 refine FN.o D z97 fun f cdv A outer s H vs Q E hr h=>?_
 obtain ⟨a,t,ns,c,cells,rfl,hS,hns,hcl,hT,hc,q⟩:=h
 refine ⟨_,ze (zi (zm FP hr rfl (z0 (pv 0) (z0 (pv 1) (z0 (qv (z0 zh (z0 zh (z0 zh (z0 zh (z0 (Zp jb zh) (z0 zh (z0 (zN z33 zh zh) (z0 Qv (z0 Qv (z0 zR (z0 zx (z0 zx z8))))))))))))) z8))))),?_⟩
 refine ⟨_,rfl,_,rfl,4,rfl,_,_,rfl,rfl,⟨by decide,by decide,by decide⟩,by show 12≤sizeLine;decide,fun p hp=>?_⟩
 have s1:=zg hp (.lst [.int 0,.int 1,.int 2,.int 3,.int (-4),.int 7,.int (10 ^ (9:Int).toNat),.bl true,.bl false,.non,.str "Oops",.str "Zero"])
 refine ⟨a,t,p,ns,c,cells,_,rfl,hS.keep fun o u e=>s1 _ _ e,hns,hcl,s1 _ _ hT,hc,z6,(zc hT hp).symm,by show 1≤12;decide,by show 12≤1000;decide,fun v cells' H' hv hl' hT' k'=>?_⟩
 exact q v cells' H' (JY v hv).1 (JY v hv).2 hl' hT' fun b o e hb=>k' b o (s1 _ _ e) hb
end
set_option maxHeartbeats 8000000
section
def z5A (K:ky):Sp:=fun vs H Q _=>∃(a:Addr) (ns:List Int),vs=[.ref a]∧Scr K H a (ns.map V.int)∧ns.length≤1000∧∀t H',Same H H'→H t=none→H' t=some (.lst (qo 0 ns))→Q (.ref t) H'
theorem z99:zf ["_law_script"] ["_law_script"] (zb (top 112)):=fsM
theorem z6W (D:zk K mg "_law_town" (top 112)) (G:Glo mg):FN P w K mg base 1 "_law_town" ["_law_script"] (z5A K):=by
 refine FN.o D z99 fun f cdv A outer s H vs Q E hr h=>?_
 obtain ⟨a,ns,rfl,hS,hn,q⟩:=h
 refine ⟨_,ze (zi (zN z15 (qv (z0 zh z8)) (qW qI rfl G.list jg (z0 (pv 0) z8)))),?_⟩
 refine ⟨by show 1≤sizeLine;decide,fun p hp=>?_⟩
 have sp:=zg hp (.lst [.int 0])
 refine ⟨_,rfl,a,ns.map V.int,rfl,.inl (hS.keep fun o u e=>sp _ _ e).sq,fun l hl=>?_⟩
 have sl:=zg hl (.lst (ns.map V.int))
 have npl:p≠l:=zc (H:=upd H p (.lst [.int 0])) z6 hl
 refine ⟨p,l,[.int 0],ns.map V.int,rfl,rfl,sl _ _ z6,z6,?_,fun t ht=>?_⟩
 ·rw [kj,sizeLine_eq]
  show 1+ns.length≤_
  lia
 ·have st:=zg ht (.lst ([.int 0]++ns.map V.int))
  refine q t _ ((sp.trans sl).trans st) ?_ z6
  cases e:H t with
  | none=>rfl
  | some o=>rw [(sp.trans sl) _ _ e] at ht;cases ht
theorem z5O {kvs:List (Key × V)} {k:Key} {v:V} (h:∀q∈kvs,okV q.2=true) (hv:okV v=true):(∀q∈putK kvs k v,okV q.2=true)∧(putK kvs k v).length≤kvs.length+1:=by
 unfold putK
 split
 ·refine ⟨fun q hq=>?_,by rw [kj];lia⟩
  obtain ⟨p,hp,rfl⟩:=ye.mp hq
  split
  ·exact hv
  ·exact h p hp
 ·refine ⟨fun q hq=>?_,by rw [kl,kF];lia⟩
  rcases kR.mp hq with z | z
  ·exact h q z
  ·rw [ko.mp z];exact hv
theorem z36 {v:V} (h:okV v=true):QC v 1000000000000000000=true:=by
 unfold QC
 cases v with
 | non=>rfl
 | bl b=>rfl
 | int i=>
  have hb:big i=false:=by simpa [okV] using h
  have h1:¬1000000000000000000 < i.natAbs:=of_decide_eq_false hb
  have:zZ (.int i) (-1000000000000000000) 1000000000000000000=true:=by
   show (decide (-1000000000000000000≤i)&&decide (i≤1000000000000000000))=true
   rw [ki (by lia),ki (by lia)]
   rfl
  rw [this]
  simp
 | str z=>
  rw [(QI z (kC h)).2]
  simp
 | _=>cases h
theorem qJ {i:Int} (h:big i=false):qm (.int i):=by
 have h1:¬1000000000000000000 < i.natAbs:=of_decide_eq_false h
 refine ⟨rfl,?_,?_⟩
 ·show (PyData.int i).showable=true
  simp only [PyData.showable]
  have:i.natAbs.log2 < 1920:=by
   by_cases z:i.natAbs=0
   ·rw [z];decide
   ·have h2:=(Nat.log2_lt z (k:=64)).mpr (by lia)
    lia
  exact ki this
 ·have e:=int_text_length_le10 (a:=i) (k:=19) (by decide) (by lia)
  show ((PyData.int i).shown).length≤60
  simp only [PyData.shown]
  rw [PySem.ofString_length]
  lia
theorem Qn:∀z∈(["Oops","Zero","Unset","Type","Big","on","value","fault"]:List Str),(qq (.str z)).showable=true∧(qq (.str z)).shown.length≤60:=by trivial
theorem Qm {z:Str} (h:z∈(["Oops","Zero","Unset","Type","Big","on","value","fault"]:List Str)):qm (.str z):=⟨rfl,(Qn z h).1,(Qn z h).2⟩
theorem z25 {z:Str} (h:z∈z1b):qm (.str z):=by
 refine Qm ?_
 unfold z1b at h
 simp only [kD,kq,or_false] at h ⊢
 rcases h with h | h | h | h | h <;> simp [h]
theorem Z2 {v:V} (h:okV v=true):qm v:=by
 cases v with
 | non=>exact ⟨rfl,by trivial,by trivial⟩
 | bl b=>cases b <;> exact ⟨rfl,by trivial,by trivial⟩
 | int i=>exact qJ (by simpa [okV] using h)
 | str z=>exact z25 (kC h)
 | _=>cases h
structure z4b (P:Program) (w:World) (K:ky) (mg:Str→Option Value) (base:Heap):Prop where
 draw:FN P w K mg base 1 "_law_draw" ["_law_script","_law_town_here","_law_many"] (Jn K)
 pick:FN P w K mg base 2 "_law_pick" ["_law_script","_law_town_here","_law_some"] (z2n K)
 const:FN P w K mg base 3 "_law_const" ["_law_script","_law_town_here"] (z2v K)
structure jS (n:Nat) (kvs:List (Key × V)):Prop where
 len:kvs.length≤n
 all:∀q∈kvs,(∃nm:Str,q.1=Sum.inr nm∧nm∈(["a","b","c"]:List Str))∧okV q.2=true
theorem z0z:∀nm∈(["a","b","c"]:List Str),nm.length≤4∧JC (.str nm)=true:=by trivial
theorem jS.names {kvs:List (Key × V)} (h:jS 3 kvs):Qr kvs:=by
 refine ⟨by have:=h.len;lia,fun p hp=>?_⟩
 obtain ⟨⟨nm,e,hn⟩,hv⟩:=h.all p hp
 obtain ⟨h1,h2⟩:=z0z nm hn
 exact ⟨nm,e,by rw [sizeLine_eq];lia,h2,jJ (z4C hv),z36 hv⟩
theorem jS.put {n:Nat} {kvs:List (Key × V)} (h:jS n kvs) {nm:Str} (hn:nm∈(["a","b","c"]:List Str)) {v:V} (hv:okV v=true):jS (n+1) (putK kvs (Sum.inr nm) v):=by
 refine ⟨by have:=(z5O (kvs:=kvs) (k:=(Sum.inr nm:Key)) (v:=v) (fun q hq=>(h.all q hq).2) hv).2;have:=h.len;lia,fun q hq=>⟨?_,(z5O (fun q hq=>(h.all q hq).2) hv).1 q hq⟩⟩
 unfold putK at hq
 split at hq
 ·obtain ⟨p,hp,rfl⟩:=ye.mp hq
  split
  ·exact (h.all p hp).1
  ·exact (h.all p hp).1
 ·rcases kR.mp hq with z | z
  ·exact (h.all q z).1
  ·rw [ko.mp z]
   exact ⟨nm,rfl,hn⟩
def z2t (K:ky):Sp:=fun vs H Q _=>∃(a t:Addr) (ns:List Int) (c:Nat) (cells:List Int),vs=[.ref a,.ref t]∧Scr K H a (ns.map V.int)∧ns.length≤1000∧cells.length=ns.length∧H t=some (.lst (qo c cells))∧c≤90000∧
 ∀(d:Addr) (kvs:List (Key × V)) (c':Nat) (cells':List Int) H',H' d=some (.dK kvs)→jS 3 kvs→cells'.length=ns.length→H' t=some (.lst (qo c' cells'))→c'≤c+6→jh H H' t→Q (.ref d) H'
theorem z6u:zf ["_law_script","_law_town_here","_law_found","_law_name"] ["_law_script","_law_town_here"] (zb (top 117)):=fsM
theorem z57 (D:zk K mg "_law_given" (top 117)) (S:z4b P w K mg base):FN P w K mg base 4 "_law_given" ["_law_script","_law_town_here"] (z2t K):=by
 refine FN.o D z6u fun f cdv A outer s H vs Q E hr h=>?_
 obtain ⟨a,t,ns,c,cells,rfl,hS,hns,hcl,hT,hc,q⟩:=h
 have hr1:=hr.mono (show 1≤3 by decide)
 have hu:=Qg hr
 refine ⟨_,z7 (zw (i:=2) z6u.nd rfl (Or.inl rfl) z10)
  (z7 (jw PassesOwn.never rfl (z81 (zI (z0 zx (z0 zx (z0 zx z8))))) (zp (i:=3) z6u.nd rfl (Or.inl rfl))
   (ze (zQ (zl z34 (zm S.draw hr1 rfl (z0 (pv 0) (z0 (pv 1) (z0 zh z8)))) zh (zo _))
    (ze (z0p hu (pv 2) (pv 3) (zm S.const hr rfl (z0 (pv 0) (z0 (pv 1) z8))) rfl)) zt)))
  (ze (zi (pv 2)))),?_⟩
 refine fun d hd=>⟨by show 3≤sizeLine;decide,fun tp htp=>?_⟩
 have s1:=zg hd (.dK [])
 have s2:=zg htp (.tup [.str "a",.str "b",.str "c"])
 have s12:=s1.trans s2
 have hd2:upd (upd H d (.dK [])) tp (.tup [.str "a",.str "b",.str "c"]) d=some (.dK []):=s2 _ _ z6
 have hp2:upd (upd H d (.dK [])) tp (.tup [.str "a",.str "b",.str "c"]) tp=some (.tup [.str "a",.str "b",.str "c"]):=z6
 have ndt:d≠t:=(zc hT hd).symm
 have ndp:d≠tp:=zA hd2 hp2 nofun
 generalize upd (upd H d (.dK [])) tp (.tup [.str "a",.str "b",.str "c"])=H0 at *
 refine ⟨tp,rfl,⟨_,SqT.of hp2⟩,z6U (K:=K) (a:=tp) (xs:=[.str "a",.str "b",.str "c"]) (fun i σ H2=>∃(v:Option V) (kvs:List (Key × V)) (c2:Nat) (cells2:List Int),σ=[some (.ref a),some (.ref t),some (.ref d),v]∧H2 d=some (.dK kvs)∧jS i kvs∧cells2.length=ns.length∧H2 t=some (.lst (qo c2 cells2))∧c2≤c+2 * i∧jh H H2 t∧H2 tp=some (.tup [.str "a",.str "b",.str "c"]))
  ⟨none,[],c,cells,rfl,hd2,⟨ke _,fun _ h=>by cases h⟩,hcl,s12 _ _ hT,by lia,fun b o e _=>s12 _ _ e,hp2⟩ (fun i σ H2 _ ⟨_,_,_,_,_,_,_,_,_,_,_,e⟩=>SqT.of e) ?_ ?_⟩
 ·rintro i x σ H2 hi ⟨v,kvs,c2,cells2,rfl,e1,e2,e3,e4,e5,e6,e7⟩
  have hx:∃nm:Str,x=.str nm∧nm∈(["a","b","c"]:List Str):=by
   have:=kG hi
   simp only [kD,kq,or_false] at this
   rcases this with z | z | z
   all_goals exact ⟨_,z,by simp⟩
  obtain ⟨nm,rfl,hnm⟩:=hx
  have hi3:i < 3:=(kf.mp hi).1
  have hS2:Scr K H2 a (ns.map V.int):=hS.keep1 e6 hT
  refine ⟨_,rfl,_,rfl,a,t,ns,c2,cells2,3,rfl,hS2,hns,e3,e4,by lia,by decide,by decide,fun j cells3 H3 j0 j1 l3 t3 k3=>?_⟩
  have hd3:=k3 _ _ e1 ndt
  have hp3:=k3 _ _ e7 (zA e7 e4 nofun)
  have k03:jh H H3 t:=fun b o e hb=>k3 b o (e6 b o e hb) hb
  refine ⟨_,_,rfl,rfl,_,rfl,?_⟩
  refine ite2 (fun _=>?_) (fun _=>?_)
  ·have hS3:Scr K H3 a (ns.map V.int):=hS2.keep1 k3 e4
   refine ⟨_,rfl,_,rfl,a,t,ns,c2+1,cells3,rfl,hS3,hns,l3,t3,by lia,fun v4 cells4 H4 pv4 ov4 l4 t4 k4=>?_⟩
   have hd4:=k4 _ _ hd3 ndt
   have hp4:=k4 _ _ hp3 (zA hp3 t3 nofun)
   refine ⟨_,rfl,_,rfl,d,_,rfl,DPut.k (k:=Sum.inr nm) hd4 (z19 (by have:=e2.len;lia)),?_⟩
   refine ⟨_,_,c2+1+1,cells4,rfl,z6,e2.put hnm ov4,l4,by rw [zd ndt.symm];exact t4,by lia,fun b o e hb=>?_,by rw [zd ndp.symm];exact hp4⟩
   have:b≠d:=zc e hd
   rw [zd this]
   exact k4 b o (k03 b o e hb) hb
  ·exact ⟨_,kvs,c2+1,cells3,rfl,hd3,⟨by have:=e2.len;lia,e2.all⟩,l3,t3,by lia,k03,hp3⟩
 ·rintro σ H2 ⟨v,kvs,c2,cells2,rfl,e1,e2,e3,e4,e5,e6,e7⟩
  exact ⟨_,rfl,q d kvs c2 cells2 H2 e1 e2 e3 e4 (by have:([.str "a",.str "b",.str "c"]:List V).length=3:=rfl;lia) e6⟩
def Zl (K:ky):Sp:=fun vs H Q _=>∃a d,vs=[.ref a]∧RdV K H (.ref a) d∧z1p d∧Q (.str d.shown) H
theorem z95:zf ["_law_thing"] ["_law_thing"] (zb (top 118)):=fsM
theorem z3H (D:zk K mg "_law_shown" (top 118)):FN P w K mg base 2 "_law_shown" ["_law_thing"] (Zl K):=by
 refine FN.o D z95 fun f cdv A outer s H vs Q E hr h=>?_
 obtain ⟨a,d,rfl,hR,hk,q⟩:=h
 exact ⟨_,ze (zi (z4w (z4u hr (pv 0)))),_,rfl,a,d,rfl,hR,hk,q⟩
theorem z2N {H:Hp} {t:Addr} {sd:List V} (h:H t=some (.lst sd)) (hs:okVs sd) (hl:sd.length≤1000) {Q:VK} {E:XK} (q:Q (.str (PyData.list (sd.map qq)).shown) H):Zl K [.ref t] H Q E:=by
 have b3:∀x∈sd,qm x:=fun x hx=>Z2 (hs x hx)
 exact ⟨t,_,rfl,.lst (SqL.of h) (jX (qK b3).1),z2C b3 hl,q⟩
end
noncomputable def ex (a b i:Nat):Nat:=if i=a then b else if i=b then a else i
theorem ex_l (a b:Nat):ex a b a=b:=by simp [ex]
theorem ex_r (a b:Nat):ex a b b=a:=by unfold ex;split <;> simp_all
theorem ex_o {a b i:Nat} (h1:i≠a) (h2:i≠b):ex a b i=i:=by unfold ex;rw [kz h1,kz h2]
theorem z7m (a b i:Nat):ex a b i=ex b a i:=by
 unfold ex
 split
 ·split
  ·rename_i h1 h2;rw [←h1,←h2]
  ·rfl
 ·rfl
theorem z20 (a b i:Nat):ex a b (ex a b i)=i:=by
 by_cases h1:i=a
 ·subst h1;rw [ex_l,ex_r]
 ·by_cases h2:i=b
  ·subst h2;rw [ex_r,ex_l]
  ·rw [ex_o h1 h2,ex_o h1 h2]
theorem z1Z {a b i n:Nat} (ha:a < n) (hb:b < n) (hi:i < n):ex a b i < n:=by
 unfold ex
 split
 ·exact hb
 ·split
  ·exact ha
  ·exact hi
structure Bij (n:Nat) (p r:Nat→Nat):Prop where
 lt:∀i,i < n→p i < n
 lt':∀i,i < n→r i < n
 rp:∀i,i < n→r (p i)=i
 pr:∀i,i < n→p (r i)=i
theorem Bij.symm {n:Nat} {p r:Nat→Nat} (h:Bij n p r):Bij n r p:=⟨h.lt',h.lt,h.pr,h.rp⟩
theorem Bij.inj {n:Nat} {p r:Nat→Nat} (h:Bij n p r) {i j:Nat} (hi:i < n) (hj:j < n) (e:p i=p j):i=j:=by
 rw [←h.rp i hi,←h.rp j hj,e]
theorem Bij.ex {n:Nat} {p r:Nat→Nat} (h:Bij n p r) {a b:Nat} (ha:a < n) (hb:b < n):Bij n (fun i=>p (ex a b i)) (fun i=>My.ex a b (r i)):=by
 refine ⟨fun i hi=>h.lt _ (z1Z ha hb hi),fun i hi=>z1Z ha hb (h.lt' i hi),fun i hi=>?_,fun i hi=>?_⟩
 ·show My.ex a b (r (p (My.ex a b i)))=i
  rw [h.rp _ (z1Z ha hb hi),z20]
 ·show p (My.ex a b (My.ex a b (r i)))=i
  rw [z20,h.pr i hi]
noncomputable def ctr (n:Nat) (p:Nat→Nat) (i:Nat):Nat:=if p i=n then p n else p i
theorem ZE {n:Nat} {p:Nat→Nat} {i:Nat} (h:p i=n):ctr n p i=p n:=by unfold ctr;rw [kA h]
theorem qP {n:Nat} {p:Nat→Nat} {i:Nat} (h:p i≠n):ctr n p i=p i:=by unfold ctr;rw [kz h]
noncomputable def cyc:Nat→(Nat→Nat)→Nat
 | 0,_=>0
 | n+1,p=>cyc n (ctr n p)+if p n=n then 1 else 0
theorem jf:∀(n:Nat) (p q:Nat→Nat),(∀i,i < n→p i=q i)→cyc n p=cyc n q
 | 0,_,_,_=>rfl
 | n+1,p,q,h=>by
  unfold cyc
  rw [h n (ya n),jf n (ctr n p) (ctr n q) fun i hi=>by unfold ctr;rw [h i (by lia),h n (by lia)]]
theorem z0K {n:Nat} {p r:Nat→Nat} (h:Bij (n+1) p r):Bij n (ctr n p) (ctr n r):=by
 have key:∀{p r:Nat→Nat},Bij (n+1) p r→(∀i,i < n→ctr n p i < n)∧∀i,i < n→ctr n r (ctr n p i)=i:=by
  intro p r h
  have lt:∀i,i < n→ctr n p i < n:=fun i hi=>by
   by_cases e:p i=n
   ·rw [ZE e]
    have h1:=h.lt n (by lia)
    have h2:p n≠n:=fun z=>by
     have:=h.inj (i:=i) (j:=n) (by lia) (by lia) (by rw [e,z])
     lia
    lia
   ·rw [qP e]
    have:=h.lt i (by lia)
    lia
  refine ⟨lt,fun i hi=>?_⟩
  by_cases e:p i=n
  ·rw [ZE e,ZE (h.rp n (by lia)),←e,h.rp i (by lia)]
  ·rw [qP e]
   have:=h.rp i (by lia)
   rw [qP (by rw [this];lia),this]
 exact ⟨(key h).1,(key h.symm).1,(key h).2,(key h.symm).2⟩
theorem z5i {n a b:Nat} (ha:a < n) (hb:b < n) (p:Nat→Nat) (i:Nat):ctr n (fun i=>p (ex a b i)) i=ctr n p (ex a b i):=by
 show (if p (ex a b i)=n then p (ex a b n) else p (ex a b i))=_
 rw [ex_o (show n≠a by lia) (show n≠b by lia)]
 rfl
theorem z5g {n a:Nat} {p r:Nat→Nat} (h:Bij (n+1) p r) (ha:a < n):
  (p n=n→cyc (n+1) (fun i=>p (ex a n i))+1=cyc (n+1) p)∧(p a=n→cyc (n+1) (fun i=>p (ex a n i))=cyc (n+1) p+1)∧
  (p n≠n→p a≠n→r n < n∧r n≠a∧cyc (n+1) (fun i=>p (ex a n i))=cyc n (fun i=>ctr n p (ex a (r n) i))∧cyc (n+1) p=cyc n (ctr n p)):=by
 have inj:∀{i j},i < n+1→j < n+1→p i=p j→i=j:=fun h1 h2 e=>h.inj h1 h2 e
 have hqn:p (ex a n n)=p a:=by rw [ex_r]
 have hqa:p (ex a n a)=p n:=by rw [ex_l]
 have hqo:∀i,i < n→i≠a→p (ex a n i)=p i:=fun i h1 h2=>by rw [ex_o h2 (by lia)]
 refine ⟨fun e=>?_,fun e=>?_,fun e1 e2=>?_⟩
 ·have pa:p a≠n:=fun z=>by have:=inj (i:=a) (j:=n) (by lia) (by lia) (by rw [z,e]);lia
  show cyc n (ctr n fun i=>p (ex a n i))+(if p (ex a n n)=n then 1 else 0)+1=cyc n (ctr n p)+if p n=n then 1 else 0
  rw [hqn,kz pa,kA e]
  congr 1
  refine jf n _ _ fun i hi=>?_
  by_cases z:i=a
  ·subst z
   rw [qP pa]
   show ctr n (fun i=>p (ex _ n i)) _=_
   rw [ZE (by show p (ex i n i)=n;rw [hqa,e])]
   show p (ex i n n)=p i
   rw [hqn]
  ·have pi:p i≠n:=fun y=>by have:=inj (i:=i) (j:=n) (by lia) (by lia) (by rw [y,e]);lia
   rw [qP pi,qP (by show p (ex a n i)≠n;rw [hqo i hi z];exact pi)]
   exact hqo i hi z
 ·have pn:p n≠n:=fun z=>by have:=inj (i:=a) (j:=n) (by lia) (by lia) (by rw [z,e]);lia
  show cyc n (ctr n fun i=>p (ex a n i))+(if p (ex a n n)=n then 1 else 0)=cyc n (ctr n p)+(if p n=n then 1 else 0)+1
  rw [hqn,kA e,kz pn,Nat.add_zero]
  congr 1
  refine jf n _ _ fun i hi=>?_
  by_cases z:i=a
  ·subst z
   rw [ZE e,qP (by show p (ex i n i)≠n;rw [hqa];exact pn)]
   exact hqa
  ·have pi:p i≠n:=fun y=>by have:=inj (i:=i) (j:=a) (by lia) (by lia) (by rw [y,e]);lia
   rw [qP pi,qP (by show p (ex a n i)≠n;rw [hqo i hi z];exact pi)]
   exact hqo i hi z
 ·have rn:=h.pr n (by lia)
  have rl:=h.lt' n (by lia)
  have rne:r n≠n:=fun z=>e1 (by rw [z] at rn;exact rn)
  have rna:r n≠a:=fun z=>e2 (by rw [z] at rn;exact rn)
  refine ⟨by lia,rna,?_,?_⟩
  ·show cyc n (ctr n fun i=>p (ex a n i))+(if p (ex a n n)=n then 1 else 0)=_
   rw [hqn,kz e2,Nat.add_zero]
   refine jf n _ _ fun i hi=>?_
   show ctr n (fun i=>p (ex a n i)) i=ctr n p (ex a (r n) i)
   by_cases z:i=a
   ·subst z
    rw [ex_l,ZE rn,qP (by show p (ex i n i)≠n;rw [hqa];exact e1)]
    exact hqa
   ·by_cases y:i=r n
    ·subst y
     rw [ex_r,qP e2,ZE (by show p (ex a n (r n))=n;rw [hqo _ hi z];exact rn)]
     exact hqn
    ·have pi:p i≠n:=fun x=>by have:=inj (i:=i) (j:=r n) (by lia) (by lia) (by rw [x,rn]);lia
     rw [ex_o z y,qP pi,qP (by show p (ex a n i)≠n;rw [hqo i hi z];exact pi)]
     exact hqo i hi z
  ·show cyc n (ctr n p)+(if p n=n then 1 else 0)=_
   rw [kz e1,Nat.add_zero]
def Pm (a b:Nat):Prop:=a=b+1∨a+1=b
theorem JX:∀(n:Nat) (p r:Nat→Nat) (a b:Nat),Bij n p r→a < n→b < n→a≠b→
  Pm (cyc n fun i=>p (ex a b i)) (cyc n p)∧(p a=b→cyc n (fun i=>p (ex a b i))=cyc n p+1)∧(p b=a→cyc n (fun i=>p (ex a b i))=cyc n p+1)
 | 0,_,_,_,_,_,h,_,_=>absurd h (by lia)
 | n+1,p,r,a,b,h,ha,hb,hab=>by
  have last:∀c,c < n→Pm (cyc (n+1) fun i=>p (ex c n i)) (cyc (n+1) p)∧(p c=n→cyc (n+1) (fun i=>p (ex c n i))=cyc (n+1) p+1)∧(p n=c→cyc (n+1) (fun i=>p (ex c n i))=cyc (n+1) p+1):=fun c hc=>by
   obtain ⟨l1,l2,l3⟩:=z5g h hc
   by_cases e1:p n=n
   ·have pc:p c≠n:=fun z=>by have:=h.inj (i:=c) (j:=n) (by lia) (by lia) (by rw [z,e1]);lia
    exact ⟨.inr (l1 e1),fun z=>absurd z pc,fun z=>by lia⟩
   ·by_cases e2:p c=n
    ·exact ⟨.inl (l2 e2),fun _=>l2 e2,fun _=>l2 e2⟩
    ·obtain ⟨k1,k2,k3,k4⟩:=l3 e1 e2
     obtain ⟨i1,i2,i3⟩:=JX n (ctr n p) (ctr n r) c (r n) (z0K h) hc k1 (fun z=>k2 z.symm)
     rw [k3,k4]
     refine ⟨i1,fun z=>absurd z e2,fun z=>i3 ?_⟩
     rw [ZE (h.pr n (by lia)),z]
  by_cases hb':b=n
  ·subst hb'
   exact last a (by lia)
  ·by_cases ha':a=n
   ·subst ha'
    obtain ⟨i1,i2,i3⟩:=last b (by lia)
    have e:(fun i=>p (ex a b i))=fun i=>p (ex b a i):=funext fun i=>by rw [z7m]
    rw [e]
    exact ⟨i1,i3,i2⟩
   ·obtain ⟨i1,i2,i3⟩:=JX n (ctr n p) (ctr n r) a b (z0K h) (by lia) (by lia) hab
    have e:ctr n (fun i=>p (ex a b i))=fun i=>ctr n p (ex a b i):=funext fun i=>z5i (by lia) (by lia) p i
    have c1:cyc (n+1) (fun i=>p (ex a b i))=cyc n (fun i=>ctr n p (ex a b i))+if p n=n then 1 else 0:=by
     show cyc n (ctr n fun i=>p (ex a b i))+(if p (ex a b n)=n then 1 else 0)=_
     rw [e,ex_o (by lia) (by lia)]
    have c2:cyc (n+1) p=cyc n (ctr n p)+if p n=n then 1 else 0:=rfl
    rw [c1,c2]
    refine ⟨?_,fun z=>?_,fun z=>?_⟩
    ·rcases i1 with i1 | i1
     ·exact .inl (by lia)
     ·exact .inr (by lia)
    ·have:=i2 (by rw [qP (by lia),z])
     lia
    ·have:=i3 (by rw [qP (by lia),z])
     lia
noncomputable def bt (c:Prop) [Decidable c]:Nat:=if c then 1 else 0
theorem bt_t {c:Prop} [Decidable c] (h:c):bt c=1:=kA h
theorem bt_f {c:Prop} [Decidable c] (h:¬c):bt c=0:=kz h
theorem z7q (c:Prop) [Decidable c]:bt c≤1:=by unfold bt;split <;> lia
noncomputable def fx:Nat→(Nat→Nat)→Nat
 | 0,_=>0
 | n+1,p=>fx n p+bt (n≠0∧p n=n)
noncomputable def cost (n:Nat) (p:Nat→Nat):Int:=(n:Int) - 2+cyc n p - 2 * fx n p
theorem Jb:∀(n:Nat) (p q:Nat→Nat),(∀i,0 < i→i < n→p i=q i)→fx n p=fx n q
 | 0,_,_,_=>rfl
 | n+1,p,q,h=>by
  unfold fx
  rw [Jb n p q fun i h0 hi=>h i h0 (by lia)]
  by_cases z:n=0
  ·subst z;rw [bt_f (by lia),bt_f (by lia)]
  ·rw [h n (by lia) (by lia)]
theorem z8s:∀(n:Nat) (p:Nat→Nat),fx n p≤n
 | 0,_=>ke _
 | n+1,p=>by
  unfold fx
  have:=z8s n p
  have:=z7q (n≠0∧p n=n)
  lia
theorem Zw {n:Nat} {p q:Nat→Nat} (h:∀i,i < n→p i=q i):cost n p=cost n q:=by
 unfold cost
 rw [jf n p q h,Jb n p q fun i _ hi=>h i hi]
theorem z1U:∀(n k:Nat) (p:Nat→Nat),0 < k→k < n→fx n (fun i=>p (ex 0 k i))+bt (p k=k)=fx n p+bt (p 0=k)
 | 0,_,_,_,h=>absurd h (by lia)
 | n+1,k,p,h0,hk=>by
  show fx n (fun i=>p (ex 0 k i))+bt (n≠0∧p (ex 0 k n)=n)+bt (p k=k)=fx n p+bt (n≠0∧p n=n)+bt (p 0=k)
  by_cases e:k=n
  ·subst e
   rw [Jb k (fun i=>p (ex 0 k i)) p fun i h1 h2=>by show p (ex 0 k i)=p i;rw [ex_o (by lia) (by lia)],ex_r]
   have e1:bt (k≠0∧p 0=k)=bt (p 0=k):=by
    by_cases z:p 0=k
    ·rw [bt_t z,bt_t ⟨by lia,z⟩]
    ·rw [bt_f z,bt_f fun y=>z y.2]
   have e2:bt (k≠0∧p k=k)=bt (p k=k):=by
    by_cases z:p k=k
    ·rw [bt_t z,bt_t ⟨by lia,z⟩]
    ·rw [bt_f z,bt_f fun y=>z y.2]
   lia
  ·have:=z1U n k p h0 (by lia)
   rw [ex_o (show n≠0 by lia) (show n≠k by lia)]
   lia
section
variable {n k:Nat} {p r:Nat→Nat}
theorem z1k (h:Bij n p r) (h0:0 < k) (hk:k < n) (e:p 0=k):cost n (fun i=>p (ex 0 k i))+1=cost n p:=by
 obtain ⟨_,c,_⟩:=JX n p r 0 k h (by lia) hk (by lia)
 have f:=z1U n k p h0 hk
 have pk:p k≠k:=fun z=>by have:=h.inj (i:=0) (j:=k) (by lia) hk (by rw [z,e]);lia
 rw [bt_f pk,bt_t e] at f
 unfold cost
 rw [c e]
 lia
theorem z5k (h:Bij n p r) (h0:0 < k) (hk:k < n) (e:p 0=0) (hw:p k≠k):cost n (fun i=>p (ex 0 k i))+1=cost n p:=by
 obtain ⟨_,_,c⟩:=JX n (fun i=>p (ex 0 k i)) (fun i=>ex 0 k (r i)) 0 k (h.ex (by lia) hk) (by lia) hk (by lia)
 have c:=c (by show p (ex 0 k k)=0;rw [ex_r,e])
 have e2:cyc n (fun i=>p (ex 0 k (ex 0 k i)))=cyc n p:=jf n _ _ fun i _=>by rw [z20]
 have c:cyc n (fun i=>p (ex 0 k (ex 0 k i)))=cyc n (fun i=>p (ex 0 k i))+1:=c
 have f:=z1U n k p h0 hk
 rw [bt_f hw,bt_f (by lia)] at f
 unfold cost
 lia
theorem z5j (h:Bij n p r) (h0:0 < k) (hk:k < n):cost n p≤cost n (fun i=>p (ex 0 k i))+1:=by
 by_cases e:p 0=k
 ·have:=z1k h h0 hk e
  lia
 ·obtain ⟨c,_,_⟩:=JX n p r 0 k h (by lia) hk (by lia)
  have f:=z1U n k p h0 hk
  rw [bt_f e] at f
  unfold cost
  rcases c with c | c <;> lia
theorem z7p (h:Bij n p r) (h0:0 < k) (hk:k < n):cost n (fun i=>p (ex 0 k i))≤cost n p+1:=by
 have c:=z5j (h.ex (show 0 < n by lia) hk) h0 hk
 have e:cost n (fun i=>p (ex 0 k (ex 0 k i)))=cost n p:=Zw fun i _=>by rw [z20]
 have c:cost n (fun i=>p (ex 0 k i))≤cost n (fun i=>p (ex 0 k (ex 0 k i)))+1:=c
 lia
theorem z1j:∀(n:Nat) (p r:Nat→Nat),Bij n p r→cyc n p=cyc n r
 | 0,_,_,_=>rfl
 | n+1,p,r,h=>by
  unfold cyc
  rw [z1j n _ _ (z0K h)]
  have:p n=n↔r n=n:=⟨fun z=>by have:=h.rp n (by lia);rw [z] at this;exact this,fun z=>by have:=h.pr n (by lia);rw [z] at this;exact this⟩
  by_cases z:p n=n
  ·rw [kA z,kA (this.mp z)]
  ·rw [kz z,kz fun y=>z (this.mpr y)]
theorem z3E {m:Nat} {p r:Nat→Nat} (h:Bij m p r):∀(n:Nat),n≤m→fx n p=fx n r
 | 0,_=>rfl
 | n+1,hn=>by
  unfold fx
  rw [z3E h n (by lia)]
  have:p n=n↔r n=n:=⟨fun z=>by have:=h.rp n (by lia);rw [z] at this;exact this,fun z=>by have:=h.pr n (by lia);rw [z] at this;exact this⟩
  congr 1
  by_cases z:p n=n
  ·by_cases y:n=0
   ·rw [bt_f (by lia),bt_f (by lia)]
   ·rw [bt_t ⟨y,z⟩,bt_t ⟨y,this.mp z⟩]
  ·rw [bt_f fun y=>z y.2,bt_f fun y=>z (this.mpr y.2)]
theorem Ql (h:Bij n p r):cost n p=cost n r:=by
 unfold cost
 rw [z1j n p r h,z3E h n (ke n)]
end
theorem z66:∀(n:Nat) (p:Nat→Nat),(∀i,i < n→p i=i)→cyc n p=n
 | 0,_,_=>rfl
 | n+1,p,h=>by
  unfold cyc
  rw [kA (h n (by lia)),z66 n (ctr n p) fun i hi=>by rw [qP (by rw [h i (by lia)];lia),h i (by lia)]]
theorem z8t:∀(n:Nat) (p:Nat→Nat),(∀i,i < n→p i=i)→fx n p=n - 1
 | 0,_,_=>rfl
 | n+1,p,h=>by
  unfold fx
  rw [z8t n p fun i hi=>h i (by lia)]
  by_cases z:n=0
  ·subst z;rw [bt_f (by lia)]
  ·rw [bt_t ⟨z,h n (by lia)⟩];lia
theorem z3Z {n:Nat} {p:Nat→Nat} (hn:1≤n) (h:∀i,i < n→p i=i):cost n p=0:=by
 unfold cost
 rw [z66 n p h,z8t n p h]
 lia
noncomputable def mu (n:Nat) (p:Nat→Nat):Nat:=2 * (n - fx n p)+bt (p 0=0)
theorem z8b {n k:Nat} {p r:Nat→Nat} (h:Bij n p r) (h0:0 < k) (hk:k < n) (e:p 0=k):mu n (fun i=>p (ex 0 k i)) < mu n p:=by
 have f:=z1U n k p h0 hk
 have pk:p k≠k:=fun z=>by have:=h.inj (i:=0) (j:=k) (by lia) hk (by rw [z,e]);lia
 rw [bt_f pk,bt_t e] at f
 have a:=z8s n (fun i=>p (ex 0 k i))
 have b:=z7q (p (ex 0 k 0)=0)
 show 2 * (n - fx n fun i=>p (ex 0 k i))+bt (p (ex 0 k 0)=0) < 2 * (n - fx n p)+bt (p 0=0)
 lia
theorem z8c {n k:Nat} {p r:Nat→Nat} (h:Bij n p r) (h0:0 < k) (hk:k < n) (e:p 0=0) (hw:p k≠k):mu n (fun i=>p (ex 0 k i)) < mu n p:=by
 have f:=z1U n k p h0 hk
 rw [bt_f hw,bt_f (by lia)] at f
 have q0:p (ex 0 k 0)≠0:=fun z=>by
  rw [ex_l] at z
  have:=h.inj (i:=0) (j:=k) (by lia) hk (by rw [z,e])
  lia
 show 2 * (n - fx n fun i=>p (ex 0 k i))+bt (p (ex 0 k 0)=0) < 2 * (n - fx n p)+bt (p 0=0)
 rw [bt_f q0,bt_t e]
 lia
noncomputable def lf (l:List Nat) (i:Nat):Nat:=l.getD i i
noncomputable def exch (l:List Nat) (k:Nat):List Nat:=(l.set 0 (l.getD k 0)).set k (l.getD 0 0)
theorem jH (l:List Nat) (k:Nat):(exch l k).length=l.length:=by simp [exch]
theorem ZI {l:List Nat} {i:Nat} (h:i < l.length) (d:Nat):lf l i=l.getD i d:=by
 unfold lf
 rw [List.getD_eq_getElem?_getD,List.getD_eq_getElem?_getD,kK h]
 rfl
theorem z3j {l:List Nat} {i:Nat} (h:l.length≤i):lf l i=i:=by
 unfold lf
 rw [List.getD_eq_getElem?_getD,List.getElem?_eq_none h]
 rfl
theorem J5 {l:List Nat} {k:Nat} (h0:0 < k) (hk:k < l.length) (i:Nat):lf (exch l k) i=lf l (ex 0 k i):=by
 by_cases hi:i < l.length
 ·have e0:0 < l.length:=by lia
  by_cases z:i=0
  ·subst z
   rw [ex_l]
   unfold lf exch
   simp only [List.getD_eq_getElem?_getD]
   rw [List.getElem?_set_ne (by lia),List.getElem?_set_self e0]
   rw [kK hk]
   rfl
  ·by_cases y:i=k
   ·subst y
    rw [ex_r]
    unfold lf exch
    simp only [List.getD_eq_getElem?_getD]
    rw [List.getElem?_set_self (by rw [List.length_set];exact hk),kK e0]
    rfl
   ·rw [ex_o z y]
    unfold lf exch
    simp only [List.getD_eq_getElem?_getD]
    rw [List.getElem?_set_ne (by lia),List.getElem?_set_ne (by lia)]
 ·rw [z3j (by rw [jH];lia),ex_o (by lia) (by lia),z3j (by lia)]
noncomputable def zC:List Nat→List Nat→List Nat
 | l,[]=>l
 | l,k :: ks=>zC (exch l (k - 1)) ks
noncomputable def sw:List Nat→Nat→Nat
 | [],i=>i
 | k :: ks,i=>ex 0 (k - 1) (sw ks i)
def Nums (n:Nat) (ks:List Nat):Prop:=∀k∈ks,2≤k∧k≤n
theorem Nums.tl {n k:Nat} {ks:List Nat} (h:Nums n (k :: ks)):Nums n ks:=fun x hx=>h x (kQ _ hx)
theorem Nums.hd {n k:Nat} {ks:List Nat} (h:Nums n (k :: ks)):2≤k∧k≤n:=h k (kP ..)
theorem qT:∀(ks l:List Nat),(zC l ks).length=l.length
 | [],_=>rfl
 | k :: ks,l=>by show (zC (exch l (k - 1)) ks).length=_;rw [qT,jH]
theorem Z7:∀(ks l:List Nat),Nums l.length ks→∀i,lf (zC l ks) i=lf l (sw ks i)
 | [],_,_,_=>rfl
 | k :: ks,l,h,i=>by
  show lf (zC (exch l (k - 1)) ks) i=lf l (ex 0 (k - 1) (sw ks i))
  obtain ⟨h1,h2⟩:=h.hd
  rw [Z7 ks _ (by rw [jH];exact h.tl),J5 (by lia) (by lia)]
theorem jG (n i:Nat):lf (List.range n) i=i:=by
 by_cases h:i < n
 ·unfold lf
  rw [List.getD_eq_getElem?_getD,List.getElem?_range h]
  rfl
 ·exact z3j (by rw [List.length_range];lia)
theorem z8j {a b:List Nat} (hl:a.length=b.length) (h:∀i,i < a.length→lf a i=lf b i):a=b:=by
 refine List.ext_getElem hl fun i h1 h2=>?_
 have:=h i h1
 rw [ZI h1 0,ZI h2 0,List.getD_eq_getElem?_getD,List.getD_eq_getElem?_getD,kK h1,kK h2] at this
 exact this
theorem Jk:∀{n:Nat} (ks:List Nat),Nums n ks→Bij n (sw ks) (sw ks.reverse)
 | n,[],_=>⟨fun _ h=>h,fun _ h=>h,fun _ _=>rfl,fun _ _=>rfl⟩
 | n,k :: ks,h=>by
  obtain ⟨h1,h2⟩:=h.hd
  have ih:=Jk ks h.tl
  have app:∀(a b:List Nat) (i:Nat),sw (a++b) i=sw a (sw b i):=by
   intro a b i
   induction a with
   | nil=>rfl
   | cons x a iha=>show ex 0 (x - 1) (sw (a++b) i)=ex 0 (x - 1) (sw a (sw b i));rw [iha]
  have e:∀i,sw (k :: ks).reverse i=sw ks.reverse (ex 0 (k - 1) i):=fun i=>by
   rw [List.reverse_cons,app]
   rfl
  refine ⟨fun i hi=>z1Z (by lia) (by lia) (ih.lt i hi),fun i hi=>by rw [e];exact ih.lt' _ (z1Z (by lia) (by lia) hi),fun i hi=>?_,fun i hi=>?_⟩
  ·rw [e]
   show sw ks.reverse (ex 0 (k - 1) (ex 0 (k - 1) (sw ks i)))=i
   rw [z20,ih.rp i hi]
  ·rw [e]
   show ex 0 (k - 1) (sw ks (sw ks.reverse (ex 0 (k - 1) i)))=i
   rw [ih.pr _ (z1Z (by lia) (by lia) hi),z20]
theorem z2d:∀{n:Nat} (ks:List Nat),1≤n→Nums n ks→cost n (sw ks)≤(ks.length:Int)
 | n,[],hn,_=>by
  have:cost n (sw [])=0:=z3Z hn fun i _=>rfl
  rw [this]
  exact Int.le_refl _
 | n,k :: ks,hn,h=>by
  obtain ⟨h1,h2⟩:=h.hd
  have ih:=z2d ks hn h.tl
  have b1:=Jk ks h.tl
  have b2:=Jk (k :: ks) h
  rw [Ql b2]
  have e:cost n (sw (k :: ks).reverse)=cost n (fun i=>sw ks.reverse (ex 0 (k - 1) i)):=Zw fun i _=>by
   rw [List.reverse_cons]
   have app:∀(a b:List Nat) (i:Nat),sw (a++b) i=sw a (sw b i):=by
    intro a b i
    induction a with
    | nil=>rfl
    | cons x a iha=>show ex 0 (x - 1) (sw (a++b) i)=ex 0 (x - 1) (sw a (sw b i));rw [iha]
   rw [app]
   rfl
  rw [e]
  have:=z7p (k:=k - 1) b1.symm (by lia) (by lia)
  rw [←Ql b1] at this
  rw [kO]
  lia
noncomputable def nxtS (lying order:List Nat):Option Nat:=
 if lying.getD 0 0=order.getD 0 0 then (match (List.range order.length).filter (fun i=>decide (lying.getD i 0≠order.getD i 0)) with
  | []=>none
  | a :: _=>some (a+1))
 else some (order.idxOf (lying.getD 0 0)+1)
inductive Way (order:List Nat):List Nat→List Nat→Prop
 | done {lying:List Nat} (h:nxtS lying order=none):Way order lying []
 | step {lying ks:List Nat} {k:Nat} (h:nxtS lying order=some k) (t:Way order (exch lying (k - 1)) ks):Way order lying (k :: ks)
theorem z3u:∀(l:List Nat) (i x:Nat),l[i]?=some x→(∀j,j < i→l[j]?≠some x)→l.idxOf x=i
 | [],_,_,h,_=>by cases h
 | y :: l,0,x,h,_=>by
  have:y=x:=by simpa using h
  subst this
  simp
 | y :: l,i+1,x,h,g=>by
  have hy:y≠x:=fun z=>g 0 (by lia) (by rw [z];rfl)
  rw [List.idxOf_cons,show (y == x)=false by simpa using hy]
  have:=z3u l i x (by simpa using h) fun j hj z=>g (j+1) (by lia) (by simpa using z)
  rw [this]
  rfl
theorem z5Y {n:Nat} {order:List Nat} {r:Nat→Nat} (hl:order.length=n) (O:Bij n (lf order) r) {x:Nat} (hx:x < n):order.idxOf x=r x:=by
 have h1:=O.lt' x hx
 have h2:=O.pr x hx
 have at_:∀i,i < n→order[i]?=some (lf order i):=fun i hi=>by
  rw [ZI (by lia) 0,List.getD_eq_getElem?_getD,kK (by lia)]
  rfl
 refine z3u order (r x) x (by rw [at_ _ h1,h2]) fun j hj z=>?_
 rw [at_ j (by lia)] at z
 have:j=r x:=O.inj (i:=j) (j:=r x) (by lia) h1 (by rw [kB z,h2])
 lia
theorem z7x {n:Nat} {order:List Nat} {r:Nat→Nat} (hn:1≤n) (hl:order.length=n) (O:Bij n (lf order) r):∀(m:Nat) (lying:List Nat) (r2:Nat→Nat),lying.length=n→Bij n (lf lying) r2→mu n (fun i=>r (lf lying i))≤m→
  ∃ks,Way order lying ks∧(ks.length:Int)=cost n (fun i=>r (lf lying i))∧Nums n ks∧zC lying ks=order:=by
 intro m
 induction m with
 | zero=>
  intro lying r2 h1 h2 h3
  exfalso
  have:mu n (fun i=>r (lf lying i))=2 * (n - fx n fun i=>r (lf lying i))+bt (r (lf lying 0)=0):=rfl
  have f:fx n (fun i=>r (lf lying i))≤n - 1:=by
   have key:∀(j:Nat) (p:Nat→Nat),fx j p≤j - 1:=by
    intro j
    induction j with
    | zero=>intro p;exact ke _
    | succ j ih=>
     intro p
     unfold fx
     by_cases z:j=0
     ·subst z;rw [bt_f (by lia)];exact ke _
     ·have:=ih p;have:=z7q (j≠0∧p j=j);lia
   exact key n _
  lia
 | succ m ih=>
  intro lying r2 h1 h2 h3
  have B:Bij n (fun i=>r (lf lying i)) (fun i=>r2 (lf order i)):=by
   refine ⟨fun i hi=>O.lt' _ (h2.lt i hi),fun i hi=>h2.lt' _ (O.lt i hi),fun i hi=>?_,fun i hi=>?_⟩
   ·show r2 (lf order (r (lf lying i)))=i
    rw [O.pr _ (h2.lt i hi),h2.rp i hi]
   ·show r (lf lying (r2 (lf order i)))=i
    rw [h2.pr _ (O.lt i hi),O.rp i hi]
  have right:∀i,i < n→(r (lf lying i)=i↔lying.getD i 0=order.getD i 0):=fun i hi=>by
   rw [←ZI (show i < lying.length by lia) 0,←ZI (show i < order.length by lia) 0]
   constructor
   ·intro e
    have:=O.pr _ (h2.lt i hi)
    rw [e] at this
    exact this.symm
   ·intro e
    rw [e,O.rp i hi]
  have go:∀k,0 < k→k < n→nxtS lying order=some (k+1)→cost n (fun i=>r (lf lying (ex 0 k i)))+1=cost n (fun i=>r (lf lying i))→mu n (fun i=>r (lf lying (ex 0 k i))) < mu n (fun i=>r (lf lying i))→
    ∃ks,Way order lying ks∧(ks.length:Int)=cost n (fun i=>r (lf lying i))∧Nums n ks∧zC lying ks=order:=fun k k0 kn hx hc hmu=>by
   have e:(fun i=>r (lf (exch lying k) i))=fun i=>r (lf lying (ex 0 k i)):=funext fun i=>by rw [J5 k0 (by lia)]
   have e2:lf (exch lying k)=fun i=>lf lying (ex 0 k i):=funext fun i=>J5 k0 (by lia) i
   obtain ⟨ks,w1,w2,w3,w4⟩:=ih (exch lying k) (fun i=>ex 0 k (r2 i)) (by rw [jH];exact h1) (by rw [e2];exact h2.ex (by lia) kn) (by rw [e];lia)
   rw [e] at w2
   refine ⟨(k+1) :: ks,.step hx (by rw [Nat.add_sub_cancel];exact w1),?_,?_,?_⟩
   ·rw [kO];lia
   ·intro x hx
    rcases kD.mp hx with z | z
    ·lia
    ·exact w3 x z
   ·show zC (exch lying (k+1 - 1)) ks=order
    rw [Nat.add_sub_cancel]
    exact w4
  by_cases h0:lying.getD 0 0=order.getD 0 0
  ·have p0:r (lf lying 0)=0:=(right 0 (by lia)).mpr h0
   cases hf:(List.range order.length).filter (fun i=>decide (lying.getD i 0≠order.getD i 0)) with
   | nil=>
    have hall:∀i,i < n→lying.getD i 0=order.getD i 0:=fun i hi=>by
     have:=List.filter_eq_nil_iff.mp hf i (List.mem_range.mpr (by lia))
     simpa using this
    refine ⟨[],.done ?_,?_,(fun _ h=>by cases h),?_⟩
    ·unfold nxtS
     rw [kA h0,hf]
    ·rw [z3Z hn fun i hi=>(right i hi).mpr (hall i hi)];rfl
    ·show lying=order
     refine z8j (by lia) fun i hi=>?_
     rw [ZI hi 0,ZI (by lia) 0]
     exact hall i (by lia)
   | cons a t=>
    have ha:a∈(List.range order.length).filter (fun i=>decide (lying.getD i 0≠order.getD i 0)):=by rw [hf];exact kP ..
    rw [List.mem_filter,List.mem_range,decide_eq_true_iff] at ha
    have a0:0 < a:=by
     rcases Nat.eq_zero_or_pos a with z | z
     ·exact absurd (by rw [z];exact h0) ha.2
     ·exact z
    have aw:r (lf lying a)≠a:=fun z=>ha.2 ((right a (by lia)).mp z)
    exact go a a0 (by lia) (by unfold nxtS;rw [kA h0,hf]) (z5k B a0 (by lia) p0 aw) (z8c B a0 (by lia) p0 aw)
  ·have p0:r (lf lying 0)≠0:=fun z=>h0 ((right 0 (by lia)).mp z)
   have pl:=B.lt 0 (by lia)
   refine go (r (lf lying 0)) (by lia) pl ?_ (z1k B (by lia) pl rfl) (z8b B (by lia) pl rfl)
   unfold nxtS
   rw [kz h0,←ZI (show 0 < lying.length by lia) 0,z5Y hl O (h2.lt 0 (by lia))]
theorem z7w {n:Nat} {ks:List Nat} (hn:1≤n) (h:Nums n ks):∃ks',Way (zC (List.range n) ks) (List.range n) ks'∧(ks'.length:Int)=cost n (sw ks)∧Nums n ks'∧zC (List.range n) ks'=zC (List.range n) ks:=by
 have hlen:(zC (List.range n) ks).length=n:=by rw [qT,List.length_range]
 have e:∀i,lf (zC (List.range n) ks) i=sw ks i:=fun i=>by rw [Z7 ks _ (by rw [List.length_range];exact h),jG]
 have b:=Jk ks h
 have O:Bij n (lf (zC (List.range n) ks)) (sw ks.reverse):=by
  rw [show lf (zC (List.range n) ks)=sw ks from funext e]
  exact b
 have R:Bij n (lf (List.range n)) id:=by
  rw [show lf (List.range n)=id from funext (jG n)]
  exact ⟨fun _ h=>h,fun _ h=>h,fun _ _=>rfl,fun _ _=>rfl⟩
 obtain ⟨ks',w1,w2,w3,w4⟩:=z7x hn hlen O _ (List.range n) id (List.length_range ..) R (ke _)
 refine ⟨ks',w1,?_,w3,w4⟩
 rw [w2,Ql b]
 exact Zw fun i _=>by rw [jG]
noncomputable def iv (l:List Nat):List Int:=l.map fun i:Nat=>(i:Int)
noncomputable def nv (l:List Nat):List V:=(iv l).map V.int
theorem z5X (l:List Nat):(iv l).length=l.length:=by unfold iv;rw [kj]
theorem qh (l:List Nat):(nv l).length=l.length:=by unfold nv;rw [kj,z5X]
theorem J3 {l:List Nat} {i:Nat} (h:i < l.length):(nv l)[i]?=some (.int ((l.getD i 0:Nat):Int)):=by
 unfold nv iv
 rw [List.getElem?_map,List.getElem?_map,kK h,List.getD_eq_getElem?_getD,kK h]
 rfl
theorem z5U (l:List Nat) (i x:Nat):(nv l).set i (.int (x:Int))=nv (l.set i x):=by
 unfold nv iv
 rw [List.map_set,List.map_set]
theorem z3q {n j:Nat} (h:j < n):ixN n (j:Int)=some j:=by
 unfold ixN
 rw [kA (by lia),kA (by lia)]
 simp
theorem z39 (a b:List Nat):nv (a++b)=nv a++nv b:=by unfold nv iv;rw [kJ,kJ]
section
def z2u:Sp:=fun vs H Q _=>∃(l:Addr) (ls:List Nat) (k:Nat),vs=[.ref l,.int (k:Nat)]∧H l=some (.lst (nv ls))∧2≤k∧k≤ls.length∧ls.length≤1000∧∀d H',Same H H'→H d=none→H' d=some (.lst (nv (exch ls (k - 1))))→Q (.ref d) H'
theorem sc60:zf ["lying","number","found"] ["lying","number"] (zb (top 60)):=fsM
theorem z7f (D:zk K mg "exchanged" (top 60)) (G:Glo mg):FN P w K mg base 1 "exchanged" ["lying","number"] z2u:=by
 refine FN.o D sc60 fun f cdv A outer s H vs Q E hr h=>?_
 obtain ⟨l,ls,k,rfl,hl,h2,hk,hn,q⟩:=h
 refine ⟨_,z7 (zw (i:=2) sc60.nd rfl (Or.inl rfl) (qW qI rfl G.list jg (z0 (pv 0) z8)))
  (z7 (j6 (zI (z0 (zD zG (pv 2) (zN QG (pv 1) zh) (fun _ _=>rfl)) (z0 (zD zG (pv 2) zh (fun _ _=>rfl)) z8))) (j7 rfl (zn (ZA (pv 2) zh j5) (zn (ZA (pv 2) (zN QG (pv 1) zh) j5) qf))))
  (ze (zi (pv 2)))),?_⟩
 refine ⟨_,rfl,l,_,rfl,.inl (SqL.of hl),fun p hp=>?_⟩
 have s1:=zg hp (.lst (nv ls))
 have e1:(k:Int) - 1=((k - 1:Nat):Int):=by lia
 have hk1:k - 1 < ls.length:=by lia
 refine ⟨_,rfl,_,rfl,_,_,rfl,rfl,p,_,_,_,rfl,rfl,SqL.of z6,by rw [e1];exact zj (J3 hk1),_,rfl,p,_,_,_,rfl,rfl,SqL.of z6,zj (j:=0) (J3 (by lia)),by show 2≤sizeLine;decide,fun t ht=>?_⟩
 have npt:p≠t:=zc (H:=upd H p (.lst (nv ls))) z6 ht
 have hp2:upd (upd H p (.lst (nv ls))) t (.tup [.int ((ls.getD (k - 1) 0:Nat):Int),.int ((ls.getD 0 0:Nat):Int)]) p=some (.lst (nv ls)):=by rw [zd npt];exact z6
 refine ⟨t,_,rfl,SqT.of z6,rfl,_,_,rfl,?_⟩
 refine ⟨_,rfl,p,_,_,0,rfl,rfl,hp2,by rw [qh];exact z3q (n:=ls.length) (j:=0) (by lia),?_⟩
 rw [z5U]
 refine ⟨_,_,rfl,_,rfl,_,rfl,_,_,rfl,rfl,p,_,_,k - 1,rfl,rfl,z6,by rw [qh,List.length_set,e1];exact z3q hk1,?_⟩
 rw [z5U]
 refine ⟨rfl,_,rfl,q p _ ?_ hp z6⟩
 intro b o e
 have nb:b≠p:=zc e hp
 have nt:b≠t:=zc (s1 _ _ e) ht
 rw [zd nb,zd nb,zd nt,zd nb]
 exact e
end
theorem qS {i:Nat} {x:V} {σ:L2.St} {H:Hp} {Q:L2.St→Hp→Prop} (h:Q (σ.set i (some x)) H):z3B i x σ H Q:=h
theorem z40 {n:Nat} {g:TG} {tc:TT} {te:TE} {R:Hp→Prop} {H:Hp} {l:Addr} {σ0:L2.St} (Pv:Nat→List V→L2.St→Hp→Prop) (h0:Pv 0 [] σ0 (upd H l (.lst [])))
  (hs:∀(i:Nat) ys σ H,i < n→Pv i ys σ H→g (.int (i:Int)) σ H fun σ2 H4=>tc σ2 H4 fun b H5=>if b=true then te σ2 H5 fun v H6=>H6 l=some (.lst ys)∧ys.length < sizeLine∧∃m',m' < n - i∧m'=n - (i+1)∧i+1≤n∧Pv (i+1) (ys++[v]) σ2 (upd H6 l (.lst (ys++[v])))
   else ∃m',m' < n - i∧m'=n - (i+1)∧i+1≤n∧Pv (i+1) ys σ2 H5) (hd:∀ys σ H,Pv n ys σ H→R H):
  ∃W:Nat→Nat→List V→L2.St→Hp→Prop,(∃m,W 0 m [] σ0 (upd H l (.lst [])))∧∀i m ys σ' H2,W i m ys σ' H2→
   ((Itr 0 n).stop i H2∧R H2)∨((Itr 0 n).go i H2∧∀x H3,(Itr 0 n).yld i H2 x H3→g x σ' H3 fun σ2 H4=>tc σ2 H4 fun b H5=>if b=true then te σ2 H5 fun v H6=>H6 l=some (.lst ys)∧ys.length < sizeLine∧∃m',m' < m∧W (i+1) m' (ys++[v]) σ2 (upd H6 l (.lst (ys++[v])))
    else ∃m',m' < m∧W (i+1) m' ys σ2 H5):=by
 refine ⟨fun i m ys σ H=>m=n - i∧i≤n∧Pv i ys σ H,⟨n,by simp,Nat.zero_le _,h0⟩,?_⟩
 rintro i m ys σ H ⟨rfl,hi,p⟩
 by_cases hlt:i < n
 ·refine .inr ⟨hlt,fun x H' y=>?_⟩
  obtain ⟨e,e2⟩:=y
  subst e
  have e2:x=.int (i:Int):=by rw [e2,Int.zero_add]
  subst e2
  exact hs i ys σ _ hlt p
 ·have e:i=n:=by lia
  subst e
  exact .inl ⟨ke _,hd ys σ H p⟩
noncomputable def z41:Scope:=match (zH (top 61)).getD 1 (.Pass ⟨0,0,0,0⟩) with
 | .Assign _ (.ListComp _ _ s _) _=>s
 | _=>zb (top 61)
noncomputable def nm59:List (Str × NameKind):=[(".0",.local),("place",.local),("lying",.cell),("order",.cell)]
noncomputable def cl59 (L:Addr):List (Str × Addr):=[("order",L+2),("lying",L+1)]
noncomputable def N59:List Str:=["place","lying","order"]
theorem sc61:zf ["lying","order","wrong"] ["lying","order"] (zb (top 61)):=fsM
theorem z8K (f:Addr) (cdv:Value) (L:Addr):closureFor z41 (envOfC "next_swap" (zb (top 61)) L f cdv)=pure (cl59 L):=by rfl
theorem z9j (f:Addr) (cdv:Value) (L:Addr):(relabel z41 (envOfC "next_swap" (zb (top 61)) L f cdv)).names=nm59:=by rfl
theorem nd59:N59.Nodup:=by trivial
theorem cs59 {P:Program} {w:World} {K:ky} {mg:Str→Option Value} {base:Heap} {f:Addr} {cdv:Value} {A:Around} {outer:List Env} {s:Shared} {H:Hp} {E:XK}:
  ji (cxOf CX0 P w K mg base ["lying","order","wrong"] "next_swap" (zb (top 61)) f cdv A outer s H E).nox N59 1 [0,1] z41 (cl59 s.heap.objs.size) where
 clos:=z8K f cdv s.heap.objs.size
 nocell:=by trivial
 kind:=rfl
 names:=by trivial
 sub:=fun x c e=>by
  have hm:=PySem.mem_of_lookup e
  simp only [cl59,kD,Prod.mk.injEq,kq,or_false] at hm
  rcases hm with ⟨rfl,rfl⟩ | ⟨rfl,rfl⟩
  ·rfl
  ·rfl
 has:=fun x h=>by
  have e:=z9j f cdv s.heap.objs.size
  have h:nm59.lookup x=some .cell∨nm59.lookup x=some .free:=by rw [←e];exact h
  have:x="lying"∨x="order":=by
   rcases h with h | h
   ·have hm:=PySem.mem_of_lookup h
    simp only [nm59,kD,Prod.mk.injEq,kq,or_false] at hm
    rcases hm with z | z | z | z
    ·cases z.2
    ·cases z.2
    ·exact .inl z.1
    ·exact .inr z.1
   ·have hm:=PySem.mem_of_lookup h
    simp only [nm59,kD,Prod.mk.injEq,kq,or_false] at hm
    rcases hm with z | z | z | z
    all_goals first | exact z.2.elim | cases z.2
  rcases this with rfl | rfl
  ·exact ⟨_,rfl⟩
  ·exact ⟨_,rfl⟩
 len:=rfl
 free:=fun j x e=>by
  match j,e with
  | 0,e=>cases e;exact ⟨0,rfl,rfl,rfl,rfl,fun c h=>h⟩
  | 1,e=>cases e;exact ⟨1,rfl,rfl,rfl,rfl,fun c h=>h⟩
  | j+2,e=>exact absurd e (by rw [List.getElem?_eq_none (by show 3≤1+(j+2);lia)];exact nofun)
theorem z0y:∀(l:List Nat) (x m:Nat),m < l.idxOf x→l[m]?≠some x
 | [],_,_,h=>by simp at h
 | y :: l,x,m,h=>by
  rw [List.idxOf_cons] at h
  by_cases e:y=x
  ·rw [show (y == x)=true by simpa using e] at h
   simp at h
  ·rw [show (y == x)=false by simpa using e] at h
   simp only [cond_false] at h
   cases m with
   | zero=>simpa using e
   | succ m=>
    have:=z0y l x m (by lia)
    simpa using this
noncomputable def jT (ls os:List Nat) (n:Nat):List Nat:=(List.range n).filter fun i=>decide (ls.getD i 0≠os.getD i 0)
theorem z1q (ls os:List Nat) (n:Nat):(jT ls os n).length≤n:=by
 have:=List.length_filter_le (fun i=>decide (ls.getD i 0≠os.getD i 0)) (List.range n)
 rw [List.length_range] at this
 exact this
theorem ZS (ls os:List Nat) (n:Nat):jT ls os (n+1)=if ls.getD n 0=os.getD n 0 then jT ls os n else jT ls os n++[n]:=by
 unfold jT
 rw [List.range_succ,List.filter_append]
 by_cases h:ls.getD n 0=os.getD n 0
 ·rw [kA h,List.filter_cons,kz (by simpa using h)];exact kU _
 ·rw [kz h,List.filter_cons,kA (by simpa using h)];rfl
noncomputable def numV:Option Nat→V
 | none=>.non
 | some k=>.int (k:Nat)
section
def z7N:Sp:=fun vs H Q _=>∃(l o:Addr) (ls os:List Nat),vs=[.ref l,.ref o]∧H l=some (.lst (nv ls))∧H o=some (.lst (nv os))∧ls.length=os.length∧1≤os.length∧os.length≤1000∧ls.getD 0 0∈os∧∀H',Same H H'→Q (numV (nxtS ls os)) H'
theorem z8E (D:zk K mg "next_swap" (top 61)) (G:Glo mg):FN P w K mg base 1 "next_swap" ["lying","order"] z7N:=by
 refine FN.o D sc61 fun f cdv A outer s H vs Q E hr h=>?_
 obtain ⟨l,o,ls,os,rfl,hl,ho,hlo,h1,hn,hm,q⟩:=h
 refine ⟨_,z7 (zQ (zl z1B (zD zG (pv 0) zh (fun _ _=>rfl)) (zD zG (pv 1) zh (fun _ _=>rfl)) (zo _)) (ze (zi (zN qO (z0r F.plainAttrs_list F.slot_list_index F.type_list_index z3e (pv 1) (z0 (zD zG (pv 0) zh (fun _ _=>rfl)) z8)) zh))) zt)
  (z7 (Q2 (i:=2) (N:=N59) (nt:=1) (ix:=[0,1]) (cl:=cl59 s.heap.objs.size) rfl sc61.nd rfl (Or.inl rfl) cs59 (jd rfl G.range (z0 (zq zu rfl G.len zK (z0 (pv 1) z8)) z8))
   (fun _ _ _ _=>zp (i:=0) nd59 rfl (Or.inl rfl)) (fun _ _ _ _=>z2R (zl z1B (zD (J9 (K:=K) rfl) (pv 1) (pv 0) (fun _ _=>rfl)) (zD (J9 (K:=K) rfl) (pv 2) (pv 0) (fun _ _=>rfl)) (zo _))) (fun _ _ _ _=>pv 0))
  (ze (zi (jo (jZ (pv 2) (fun _=>rfl)) (zN qO (zD zG (pv 2) zh (fun _ _=>rfl)) zh) zR)))),?_⟩
 refine ⟨_,rfl,l,_,_,_,rfl,rfl,SqL.of hl,zj (j:=0) (J3 (by lia)),_,rfl,o,_,_,_,rfl,rfl,SqL.of ho,zj (j:=0) (J3 (by lia)),rfl,!decide (ls.getD 0 0=os.getD 0 0),?_,?_⟩
 ·congr 2
  rw [Bool.eq_iff_iff,decide_eq_true_iff,decide_eq_true_iff]
  constructor
  ·intro z;have:=V.int.inj z;lia
  ·intro z;rw [z]
 by_cases h0:ls.getD 0 0=os.getD 0 0
 case neg=>
  rw [kh h0]
  have hi:os.idxOf (ls.getD 0 0) < os.length:=List.idxOf_lt_length_of_mem hm
  refine iteT ⟨_,rfl,.inl ⟨rfl,_,SqL.of ho⟩,_,rfl,l,_,_,_,rfl,rfl,SqL.of hl,zj (j:=0) (J3 (by lia)),o,iv os,_,os.idxOf (ls.getD 0 0),rfl,rfl,ho,?_,?_,by rw [z5X];exact hn,_,_,rfl,rfl,?_⟩
  ·unfold iv
   rw [List.getElem?_map,kK hi,List.getElem_idxOf hi]
   rfl
  ·intro m hlt z
   unfold iv at z
   rw [List.getElem?_map] at z
   have:=z0y os (ls.getD 0 0) m hlt
   cases e:os[m]? with
   | none=>rw [e] at z;cases z
   | some y=>
    rw [e] at z this
    have z:((y:Nat):Int)=((ls.getD 0 0:Nat):Int):=kB z
    exact this (by congr 1;lia)
  ·have:numV (nxtS ls os)=.int (((os.idxOf (ls.getD 0 0):Nat):Int)+1):=by
    unfold nxtS
    rw [kz h0]
    show V.int ((os.idxOf (ls.getD 0 0)+1:Nat):Int)=_
    congr 1
   rw [this] at q
   exact q H (Same.refl _)
 rw [ki h0]
 refine iteF ?_
 refine ⟨_,rfl,o,_,rfl,.inl (SqL.of ho),_,rfl,by lia,by rw [qh];lia,fun wl hwl=>z40 (n:=(nv os).length) (fun i ys σ H4=>(∃x:Option V,σ=[x,some (.ref l),some (.ref o)])∧ys=nv (jT ls os i)∧Same H H4∧H4 wl=some (.lst ys)) ⟨⟨none,rfl⟩,rfl,zg hwl _,z6⟩ ?_ ?_⟩
 ·rintro i ys σ H4 hi ⟨⟨x,rfl⟩,rfl,s4,hw4⟩
  rw [qh] at hi
  refine qS ?_
  refine ⟨_,rfl,_,rfl,l,_,_,_,rfl,rfl,SqL.of (s4 _ _ hl),zj (J3 (by lia)),_,rfl,_,rfl,o,_,_,_,rfl,rfl,SqL.of (s4 _ _ ho),zj (J3 (by lia)),rfl,!decide (ls.getD i 0=os.getD i 0),?_,?_⟩
  ·congr 2
   rw [Bool.eq_iff_iff,decide_eq_true_iff,decide_eq_true_iff]
   constructor
   ·intro z;have:=V.int.inj z;lia
   ·intro z;rw [z]
  by_cases hb:ls.getD i 0=os.getD i 0
  ·rw [ki hb]
   refine iteF ⟨os.length - (i+1),by rw [qh];lia,by rw [qh],by rw [qh];lia,⟨_,rfl⟩,?_,s4,hw4⟩
   rw [ZS,kA hb]
  ·rw [kh hb]
   refine iteT ⟨_,rfl,hw4,?_,os.length - (i+1),by rw [qh];lia,by rw [qh],by rw [qh];lia,⟨_,rfl⟩,?_,?_,z6⟩
   ·rw [qh]
    exact Nat.lt_of_le_of_lt (z1q ls os i) (by rw [sizeLine_eq];lia)
   ·rw [ZS,kz hb,z39]
    rfl
   ·exact My.Same.upd s4 hwl _
 ·rintro ys σ H4 ⟨_,rfl,s4,hw4⟩
  rw [qh] at hw4
  cases hw:jT ls os os.length with
  | nil=>
   rw [hw] at hw4
   have:nxtS ls os=none:=by
    unfold nxtS
    rw [kA h0]
    unfold jT at hw
    rw [hw]
   rw [this] at q
   exact ⟨_,rfl,false,.inl ⟨_,SqL.of hw4,rfl⟩,iteF (q H4 s4)⟩
  | cons a t=>
   rw [hw] at hw4
   have:nxtS ls os=some (a+1):=by
    unfold nxtS
    rw [kA h0]
    unfold jT at hw
    rw [hw]
   rw [this] at q
   refine ⟨_,rfl,true,.inl ⟨_,SqL.of hw4,rfl⟩,iteT ⟨_,rfl,wl,_,_,_,rfl,rfl,SqL.of hw4,zj (j:=0) rfl,_,_,rfl,rfl,q H4 s4⟩⟩
end
inductive WayC (os:List Nat):List Nat→List Nat→Prop
 | done {ls:List Nat} (h:nxtS ls os=none) (hl:ls.length=os.length) (hm:ls.getD 0 0∈os):WayC os ls []
 | step {ls ks:List Nat} {k:Nat} (h:nxtS ls os=some k) (hl:ls.length=os.length) (hm:ls.getD 0 0∈os) (h2:2≤k) (hk:k≤os.length) (t:WayC os (exch ls (k - 1)) ks):WayC os ls (k :: ks)
theorem WayC.len {os ls ks:List Nat} (h:WayC os ls ks):ls.length=os.length:=by cases h <;> assumption
theorem WayC.mem {os ls ks:List Nat} (h:WayC os ls ks):ls.getD 0 0∈os:=by cases h <;> assumption
theorem z8O {n:Nat} {os:List Nat} {r:Nat→Nat} (hn:1≤n) (hl:os.length=n) (O:Bij n (lf os) r) {ls ks:List Nat} (w:Way os ls ks):∀(r2:Nat→Nat),ls.length=n→Bij n (lf ls) r2→WayC os ls ks:=by
 have mem:∀{ls:List Nat} {r2:Nat→Nat},ls.length=n→Bij n (lf ls) r2→ls.getD 0 0∈os:=fun {ls r2} h1 h2=>by
  have hx:=h2.lt 0 (by lia)
  rw [ZI (show 0 < ls.length by lia) 0] at hx
  have h3:=O.lt' _ hx
  have h4:=O.pr _ hx
  rw [ZI (show r (ls.getD 0 0) < os.length by lia) 0,List.getD_eq_getElem?_getD,kK (by lia)] at h4
  have h4:os[r (ls.getD 0 0)]'(by lia)=ls.getD 0 0:=h4
  rw [←h4]
  exact List.getElem_mem _
 induction w with
 | done h=>exact fun r2 h1 h2=>.done h (by lia) (mem h1 h2)
 | @step ls ks k h t ih=>
  intro r2 h1 h2
  have hk:2≤k∧k≤n:=by
   unfold nxtS at h
   by_cases h0:ls.getD 0 0=os.getD 0 0
   ·rw [kA h0] at h
    cases hf:(List.range os.length).filter (fun i=>decide (ls.getD i 0≠os.getD i 0)) with
    | nil=>rw [hf] at h;cases h
    | cons a tl=>
     rw [hf] at h
     have ha:a∈(List.range os.length).filter (fun i=>decide (ls.getD i 0≠os.getD i 0)):=by rw [hf];exact kP ..
     rw [List.mem_filter,List.mem_range,decide_eq_true_iff] at ha
     have a0:a≠0:=fun z=>ha.2 (by rw [z];exact h0)
     have:a+1=k:=kB h
     lia
   ·rw [kz h0] at h
    have hx:=h2.lt 0 (by lia)
    rw [ZI (show 0 < ls.length by lia) 0] at hx
    rw [z5Y hl O hx] at h
    have:r (ls.getD 0 0)+1=k:=kB h
    have h3:=O.lt' _ hx
    have h4:r (ls.getD 0 0)≠0:=fun z=>h0 (by
     have:=O.pr _ hx
     rw [z,ZI (show 0 < os.length by lia) 0] at this
     exact this.symm)
    lia
  refine .step h (by lia) (mem h1 h2) hk.1 (by lia) ?_
  refine ih (fun i=>ex 0 (k - 1) (r2 i)) (by rw [jH];exact h1) ?_
  have e2:lf (exch ls (k - 1))=fun i=>lf ls (ex 0 (k - 1) i):=funext fun i=>J5 (by lia) (by lia) i
  rw [e2]
  exact h2.ex (by lia) (by lia)
theorem z29 {n:Nat} {ks:List Nat} (hn:1≤n) (h:Nums n ks):∃ks',WayC (zC (List.range n) ks) (List.range n) ks'∧(ks'.length:Int)=cost n (sw ks)∧Nums n ks'∧zC (List.range n) ks'=zC (List.range n) ks∧ks'.length≤ks.length:=by
 obtain ⟨ks',w1,w2,w3,w4⟩:=z7w hn h
 have hlen:(zC (List.range n) ks).length=n:=by rw [qT,List.length_range]
 have e:∀i,lf (zC (List.range n) ks) i=sw ks i:=fun i=>by rw [Z7 ks _ (by rw [List.length_range];exact h),jG]
 have O:Bij n (lf (zC (List.range n) ks)) (sw ks.reverse):=by
  rw [show lf (zC (List.range n) ks)=sw ks from funext e]
  exact Jk ks h
 have R:Bij n (lf (List.range n)) id:=by
  rw [show lf (List.range n)=id from funext (jG n)]
  exact ⟨fun _ h=>h,fun _ h=>h,fun _ _=>rfl,fun _ _=>rfl⟩
 refine ⟨ks',z8O hn hlen O w1 id (List.length_range ..) R,w2,w3,w4,?_⟩
 have:=z2d ks hn h
 lia
theorem z90 {n:Nat} {a b:List Nat} (ha:Nums n a) (hb:Nums n b) (h:zC (List.range n) a=zC (List.range n) b):∀i,sw a i=sw b i:=fun i=>by
 have h1:=Z7 a (List.range n) (by rw [List.length_range];exact ha) i
 have h2:=Z7 b (List.range n) (by rw [List.length_range];exact hb) i
 rw [jG] at h1 h2
 rw [←h1,←h2,h]
theorem z69 {c:TT} {tb:TS} {D:Ends} {σ:L2.St} {H:Hp} (Pv:Nat→L2.St→Hp→Prop) (h0:∃m,Pv m σ H)
  (hs:∀m σ H,Pv m σ H→c σ H fun b H1=>if b=true then tb { D with nx:=fun σ' H'=>∃m',m' < m∧Pv m' σ' H',ct:=fun σ' H'=>∃m',m' < m∧Pv m' σ' H',bk:=D.nx } σ H1 else D.nx σ H1)
  (mono:∀σ H Q Q',(∀b H1,Q b H1→Q' b H1)→c σ H Q→c σ H Q'):z5x c tb D σ H:=by
 refine ⟨Pv,h0,?_⟩
 intro m σ H p
 refine mono σ H _ _ (fun b H1 q=>?_) (hs m σ H p)
 cases b with
 | true=>exact ⟨_,fun σ' H' z=>z,q⟩
 | false=>exact q
section
def spTo:Sp:=fun vs H Q _=>∃(o:Addr) (os ks:List Nat),vs=[.ref o]∧H o=some (.lst (nv os))∧1≤os.length∧os.length≤1000∧WayC os (List.range os.length) ks∧ks.length≤150∧∀d H',Same H H'→H d=none→H' d=some (.lst (nv ks))→Q (.ref d) H'
theorem sc62:zf ["order","lying","found","number"] ["order"] (zb (top 62)):=fsM
theorem z9B (D:zk K mg "swaps_to" (top 62)) (G:Glo mg) (FX:FN P w K mg base 1 "next_swap" ["lying","order"] z7N) (FE:FN P w K mg base 1 "exchanged" ["lying","number"] z2u):FN P w K mg base 2 "swaps_to" ["order"] spTo:=by
 refine FN.o D sc62 fun f cdv A outer s H vs Q E hr h=>?_
 obtain ⟨o,os,ks,rfl,ho,h1,hn,hw,hk,q⟩:=h
 refine ⟨_,z7 (zw (i:=1) sc62.nd rfl (Or.inl rfl) (QF rfl rfl G.list rfl G.range (z0 (zq zu rfl G.len zK (z0 (pv 0) z8)) z8)))
  (z7 (zw (i:=2) sc62.nd rfl (Or.inl rfl) (qv z8))
  (z7 (zw (i:=3) sc62.nd rfl (Or.inl rfl) (zm FX hr rfl (z0 (pv 1) (z0 (pv 0) z8))))
  (z7 (ZO PassesOwn.never (zl jL (pv 3) zR (zo _))
   (z7 (zy (z0r F.plainAttrs_list F.slot_list_append F.type_list_append Z3 (pv 2) (z0 (pv 3) z8)))
   (z7 (zw (i:=1) sc62.nd rfl (Or.inl rfl) (zm FE hr rfl (z0 (pv 1) (z0 (pv 3) z8))))
   (ze (zw (i:=3) sc62.nd rfl (Or.inl rfl) (zm FX hr rfl (z0 (pv 1) (z0 (pv 0) z8))))))))
  (ze (zi (pv 2)))))),?_⟩
 refine ⟨_,rfl,o,_,rfl,.inl (SqL.of ho),os.length,by rw [qh],hn,fun l hl=>?_⟩
 have el:((List.range os.length).map fun i:Nat=>(i:Int)).map V.int=nv (List.range os.length):=rfl
 rw [el]
 have s1:=zg hl (.lst (nv (List.range os.length)))
 refine ⟨by show 0≤sizeLine;decide,fun fl hfl=>?_⟩
 have s2:=zg hfl (.lst [])
 have s12:=s1.trans s2
 have nlf:l≠fl:=zc (H:=upd H l (.lst (nv (List.range os.length)))) z6 hfl
 have hfl0:H fl=none:=s1.free hfl
 refine ⟨_,rfl,_,rfl,l,o,List.range os.length,os,rfl,s2 _ _ z6,s12 _ _ ho,List.length_range ..,h1,hn,hw.mem,fun H3 s3=>?_⟩
 refine z69 (fun m σ H2=>∃(l:Addr) (ls dn rest:List Nat),σ=[some (.ref o),some (.ref l),some (.ref fl),some (numV (nxtS ls os))]∧m=rest.length∧WayC os ls rest∧ks=dn++rest∧H2 l=some (.lst (nv ls))∧H2 fl=some (.lst (nv dn))∧l≠fl∧Same H H2)
  ⟨ks.length,l,List.range os.length,[],ks,rfl,rfl,hw,rfl,s3 _ _ (s2 _ _ z6),s3 _ _ z6,nlf,s12.trans s3⟩ ?_ (fun σ H Q Q' hq ⟨x,e,q1,k,e2,q2⟩=>⟨x,e,q1,k,e2,hq _ _ q2⟩)
 rintro m σ H2 ⟨l,ls,dn,rest,rfl,rfl,hw2,rfl,hl2,hf2,nlf,sH⟩
 cases hw2 with
 | done hx hle hm=>
  rw [hx]
  refine ⟨_,rfl,rfl,false,rfl,iteF ⟨_,rfl,q fl H2 sH hfl0 ?_⟩⟩
  rw [hf2,kU]
 | @step _ rest k hx hle hm h2 hk2 ht=>
  rw [hx]
  refine ⟨_,rfl,rfl,true,rfl,iteT ?_⟩
  refine ⟨_,rfl,.inl ⟨rfl,_,SqL.of hf2⟩,_,rfl,fl,_,_,rfl,rfl,hf2,?_,?_⟩
  ·rw [qh]
   rw [kl] at hk
   exact Nat.lt_of_le_of_lt (ku (Nat.le_add_right _ _) hk) (by rw [sizeLine_eq];lia)
  have ea:nv dn++[numV (some k)]=nv (dn++[k]):=by rw [z39];rfl
  rw [ea]
  have hl4:upd H2 fl (.lst (nv (dn++[k]))) l=some (.lst (nv ls)):=by rw [zd nlf];exact hl2
  have sH4:Same H (upd H2 fl (.lst (nv (dn++[k])))):=My.Same.upd sH hfl0 _
  refine ⟨_,rfl,_,rfl,l,ls,k,rfl,hl4,h2,by lia,by lia,fun d H5 s5 hd hd5=>?_⟩
  have ndf:d≠fl:=(zc (H:=upd H2 fl (.lst (nv (dn++[k])))) z6 hd).symm
  have sH5:=sH4.trans s5
  refine ⟨_,rfl,_,rfl,d,o,exch ls (k - 1),os,rfl,hd5,sH5 _ _ ho,ht.len,h1,hn,ht.mem,fun H6 s6=>?_⟩
  exact ⟨rest.length,by simp,d,exch ls (k - 1),dn++[k],rest,rfl,rfl,ht,by simp,s6 _ _ hd5,s6 _ _ (s5 _ _ z6),ndf,sH5.trans s6⟩
end
structure GloS (mg:Str→Option Value):Prop where
 places:∃u,mg "MOST_PLACES"=some u∧RelV (.int 9) u
 sorted:mg "sorted"=none
 zip:mg "zip"=none
theorem z5l {K:ky} {a b:Addr} {xs zs:List V} (hxz:xs.length≤zs.length) {g:TG} {tc:TT} {te:TE} {R:Hp→Prop} {H:Hp} {l:Addr} {σ0:L2.St} (Pv:Nat→List V→L2.St→Hp→Prop) (h0:Pv 0 [] σ0 (upd H l (.lst []))) (hl:∀i ys σ H,i≤xs.length→Pv i ys σ H→SqL K H a xs∧SqL K H b zs)
  (hs:∀i x z p ys σ H,xs[i]?=some x→zs[i]?=some z→Pv i ys σ H→H p=none→g (.ref p) σ (upd H p (.tup [x,z])) fun σ2 H4=>tc σ2 H4 fun b H5=>if b=true then te σ2 H5 fun v H6=>H6 l=some (.lst ys)∧ys.length < sizeLine∧∃m',m' < xs.length - i∧m'=xs.length - (i+1)∧i+1≤xs.length∧Pv (i+1) (ys++[v]) σ2 (upd H6 l (.lst (ys++[v])))
   else ∃m',m' < xs.length - i∧m'=xs.length - (i+1)∧i+1≤xs.length∧Pv (i+1) ys σ2 H5) (hd:∀ys σ H,Pv xs.length ys σ H→R H):
  ∃W:Nat→Nat→List V→L2.St→Hp→Prop,(∃m,W 0 m [] σ0 (upd H l (.lst [])))∧∀i m ys σ' H2,W i m ys σ' H2→
   ((Itz K a b).stop i H2∧R H2)∨((Itz K a b).go i H2∧∀x H3,(Itz K a b).yld i H2 x H3→g x σ' H3 fun σ2 H4=>tc σ2 H4 fun b H5=>if b=true then te σ2 H5 fun v H6=>H6 l=some (.lst ys)∧ys.length < sizeLine∧∃m',m' < m∧W (i+1) m' (ys++[v]) σ2 (upd H6 l (.lst (ys++[v])))
    else ∃m',m' < m∧W (i+1) m' ys σ2 H5):=by
 refine ⟨fun i m ys σ H=>m=xs.length - i∧i≤xs.length∧Pv i ys σ H,⟨xs.length,by simp,Nat.zero_le _,h0⟩,?_⟩
 rintro i m ys σ H ⟨rfl,hi,p⟩
 obtain ⟨q1,q2⟩:=hl i ys σ H hi p
 by_cases hlt:i < xs.length
 ·have hlz:i < zs.length:=by lia
  refine .inr ⟨⟨xs,zs,xs[i],zs[i],q1,q2,by simp [hlt],by simp [hlz]⟩,fun x H' y=>?_⟩
  obtain ⟨p',y',z',rfl,hn,rfl,y1,y2⟩:=y
  exact hs i y' z' p' ys σ _ (y1 xs q1) (y2 zs q2) p hn
 ·have e:i=xs.length:=by lia
  subst e
  exact .inl ⟨⟨xs,zs,q1,q2,.inl (ke _)⟩,hd ys σ H p⟩
theorem QQ:∀(ks l:List Nat) (k:Nat),zC l (ks++[k])=exch (zC l ks) (k - 1)
 | [],_,_=>rfl
 | x :: ks,l,k=>QQ ks (exch l (x - 1)) k
theorem QD {l:List Nat} {i:Nat} (h:i < l.length):l.take (i+1)=l.take i++[l.getD i 0]:=by
 rw [List.take_succ,List.getD_eq_getElem?_getD,kK h]
 rfl
section
def z2p:Sp:=fun vs H Q _=>∃(l:Addr) (ks:List Nat),vs=[.ref l]∧H l=some (.lst (nv ks))∧Nums 9 ks∧∀d H',Same H H'→H d=none→H' d=some (.lst (nv (zC (List.range 9) ks)))→Q (.ref d) H'
theorem sc63:zf ["numbers","lying","number"] ["numbers"] (zb (top 63)):=fsM
theorem z51 (D:zk K mg "order_made" (top 63)) (G:Glo mg) (GS:GloS mg) (FE:FN P w K mg base 1 "exchanged" ["lying","number"] z2u):FN P w K mg base 2 "order_made" ["numbers"] z2p:=by
 refine FN.o D sc63 fun f cdv A outer s H vs Q E hr h=>?_
 obtain ⟨l,ks,rfl,hl,hk,q⟩:=h
 refine ⟨_,z7 (zw (i:=1) sc63.nd rfl (Or.inl rfl) (QF rfl rfl G.list rfl G.range (z0 (qC rfl GS.places) z8)))
  (z7 (jw PassesOwn.never rfl (Zo (pv 0)) (zp (i:=2) sc63.nd rfl (Or.inl rfl)) (ze (zw (i:=1) sc63.nd rfl (Or.inl rfl) (zm FE hr rfl (z0 (pv 1) (z0 (pv 2) z8))))))
  (ze (zi (pv 1)))),?_⟩
 refine ⟨9,rfl,by decide,fun d hd=>?_⟩
 have s1:=zg hd (.lst (nv (List.range 9)))
 refine ⟨_,rfl,l,rfl,⟨_,SqL.of (s1 _ _ hl)⟩,Jc (xs:=nv ks) (fun i σ H2=>∃(x:Option V) (d:Addr),σ=[some (.ref l),some (.ref d),x]∧H2 d=some (.lst (nv (zC (List.range 9) (ks.take i))))∧H d=none∧Same H H2)
  ⟨_,d,rfl,by rw [List.take_zero];exact z6,hd,s1⟩ (fun i σ H2 _ ⟨_,_,_,_,_,s3⟩=>SqL.of (s3 _ _ hl)) ?_ ?_⟩
 ·rintro i x σ H2 hi ⟨y,d,rfl,hd2,hd0,s2⟩
  have hil:i < ks.length:=by have:=(kf.mp hi).1;rw [qh] at this;exact this
  rw [J3 hil] at hi
  cases hi
  have hki:=hk (ks.getD i 0) (by rw [List.getD_eq_getElem?_getD,kK hil];exact List.getElem_mem _)
  have hal:(zC (List.range 9) (ks.take i)).length=9:=by rw [qT,List.length_range]
  refine qS ?_
  refine ⟨_,rfl,_,rfl,d,zC (List.range 9) (ks.take i),ks.getD i 0,rfl,hd2,hki.1,by lia,by lia,fun d' H3 s3 hd' hd3=>?_⟩
  refine ⟨_,d',rfl,?_,s2.free hd',s2.trans s3⟩
  rw [QD hil,QQ]
  exact hd3
 ·rintro σ H2 ⟨x,d,rfl,hd2,hd0,s2⟩
  rw [qh,List.take_length] at hd2
  exact ⟨_,rfl,q d H2 s2 hd0 hd2⟩
def Grp9:List Row→List Nat→Prop:=Paired fun r k=>r.op="swap"∧r.arg=.int (k:Nat)∧2≤k∧k≤9
noncomputable def putN (ks:List Nat) (rs:List Row):List Row:=List.zipWith (fun k r=>⟨"swap",.int (k:Nat),r.line⟩) ks rs
noncomputable def shM (ks':List Nat) (rs:List Row):List Row:=if ks'.length=rs.length then rs else putN ks' rs
theorem Grp9.nums {rs:List Row} {ks:List Nat} (h:Grp9 rs ks):Nums 9 ks:=by
 unfold Grp9 at h
 induction h with
 | nil=>intro x hx;cases hx
 | cons a t ih=>
  intro x hx
  rcases kD.mp hx with z | z
  ·subst z;exact a.2.2
  ·exact ih x z
def z0g:Sp:=fun vs H Q _=>∃(g:Addr) (as:List Addr) (rs:List Row) (ks ks':List Nat),vs=[.ref g]∧H g=some (.lst (as.map V.ref))∧zr H as rs∧rs.length≤150∧Grp9 rs ks∧WayC (zC (List.range 9) ks) (List.range 9) ks'∧ks'.length≤rs.length∧
 ∀d as' H',Same H H'→(d=g∨H d=none)→H' d=some (.lst (as'.map V.ref))→zr H' as' (shM ks' rs)→Q (.ref d) H'
theorem sc64:zf ["group","numbers"] ["group"] (zb (top 64)):=fsM
theorem z3o {X:Cx} {K:ky} (hK:X.K=K):IxR X (rIxT K):=by subst hK;exact zU
theorem ndR:(["row"]:List Str).Nodup:=by decide
theorem ndNR:(["number","row"]:List Str).Nodup:=by trivial
theorem z4W (D:zk K mg "shortest" (top 64)) (G:Glo mg) (GS:GloS mg) (FT:FN P w K mg base 2 "swaps_to" ["order"] spTo) (FM:FN P w K mg base 2 "order_made" ["numbers"] z2p):FN P w K mg base 3 "shortest" ["group"] z0g:=by
 refine FN.o D sc64 fun f cdv A outer s H vs Q E hr h=>?_
 obtain ⟨g,as,rs,ks,ks',rfl,hg,hR,hn,hG,hw,hk',q⟩:=h
 have hal:as.length=rs.length:=hR.len
 have hkl:rs.length=ks.length:=Paired.length hG
 refine ⟨_,z7 (zw (i:=1) sc64.nd rfl (Or.inl rfl) (zm FT hr rfl (z0 (zm FM hr rfl (z0 (J0 (N:=["row"]) (nt:=1) (ix:=[]) (cl:=[]) rfl (ji.plain (by trivial) (by trivial) rfl (by trivial) rfl) (Zo (pv 0))
    (fun _ _ _ _=>zp (i:=0) ndR rfl (Or.inl rfl)) (fun _ _ _ _=>Q1) (fun _ _ _ _=>zD (z3o (K:=K) rfl) (pv 0) zh (fun _ _=>rfl))) z8)) z8)))
  (z7 (zQ (zl qz (zq zu rfl G.len zK (z0 (pv 1) z8)) (zq zu rfl G.len zK (z0 (pv 0) z8)) (zo _)) (ze (zi (pv 0))) zt)
  (ze (zi (J0 (N:=["number","row"]) (nt:=2) (ix:=[]) (cl:=[]) rfl (ji.plain (by trivial) (by trivial) rfl (by trivial) rfl) (z80 rfl GS.zip (z0 (pv 1) (z0 (pv 0) z8)))
    (fun _ _ _ _=>Q5 (K:=K) (n:=2) rfl rfl (zn (zp (i:=0) ndNR rfl (Or.inl rfl)) (zn (zp (i:=1) ndNR rfl (Or.inl rfl)) qf))) (fun _ _ _ _=>Q1)
    (fun _ _ _ _=>zI (z0 zx (z0 (pv 0) (z0 (zD (z3o (K:=K) rfl) (pv 1) zh (fun _ _=>rfl)) z8)))))))),?_⟩
 refine ⟨_,rfl,g,rfl,⟨_,SqL.of hg⟩,fun nl hnl=>Zx (K:=K) (a:=g) (xs:=as.map V.ref) (fun i ys σ H2=>(∃a:Option V,σ=[a])∧ys=nv (ks.take i)∧Same H H2∧H2 nl=some (.lst ys))
  ⟨⟨none,rfl⟩,rfl,zg hnl _,z6⟩ (fun i ys σ H2 _ ⟨_,_,s2,_⟩=>s2.seq (SqL.of hg)) ?_ ?_⟩
 ·rintro i x ys σ H2 hi ⟨⟨b,rfl⟩,rfl,s2,hp2⟩
  obtain ⟨t,r,rfl,er,ht⟩:=(hR.same s2).get hi
  have hil:i < rs.length:=(kf.mp er).1
  have hik:i < ks.length:=by lia
  have hgr:r.op="swap"∧r.arg=.int ((ks.getD i 0:Nat):Int)∧2≤ks.getD i 0∧ks.getD i 0≤9:=by
   have key:∀{rs:List Row} {ks:List Nat} {i:Nat} {r:Row},Grp9 rs ks→rs[i]?=some r→r.op="swap"∧r.arg=.int ((ks.getD i 0:Nat):Int)∧2≤ks.getD i 0∧ks.getD i 0≤9:=by
    intro rs ks i r h e
    unfold Grp9 at h
    induction h generalizing i with
    | nil=>cases e
    | cons a t ih=>
     cases i with
     | zero=>simp at e;subst e;simpa using a
     | succ i=>
      have:=ih (by simpa using e)
      simpa using this
   exact key hG er
  have ht':H2 t=some (.tup [.str r.op,.int ((ks.getD i 0:Nat):Int),.int r.line]):=by rw [←hgr.2.1];exact ht
  refine qS ?_
  refine ZW ⟨_,rfl,t,_,_,_,rfl,rfl,SqT.of ht',zj (j:=1) rfl,hp2,?_,rs.length - (i+1),by rw [kj];lia,by rw [kj,hal],by rw [kj];lia,⟨_,rfl⟩,?_,?_,z6⟩
  ·rw [qh,List.length_take,sizeLine_eq];lia
  ·rw [QD hik,z39];rfl
  ·exact My.Same.upd s2 hnl _
 ·rintro ys σ H2 ⟨_,rfl,s2,hp2⟩
  rw [kj,hal,hkl,List.take_length] at hp2
  refine ⟨nl,ks,rfl,hp2,hG.nums,fun d H3 s3 hd hd3=>?_⟩
  have hlen9:(zC (List.range 9) ks).length=9:=by rw [qT,List.length_range]
  refine ⟨d,zC (List.range 9) ks,ks',rfl,hd3,by lia,by lia,by rw [hlen9];exact hw,by lia,fun nu H4 s4 hnu hnu4=>?_⟩
  have s04:=(s2.trans s3).trans s4
  have hg4:=s04 _ _ hg
  have hR4:=hR.same s04
  refine ⟨_,rfl,nu,_,rfl,.inl (SqL.of hnu4),_,rfl,g,_,rfl,.inl (SqL.of hg4),rfl,decide (ks'.length=rs.length),?_,?_⟩
  ·rw [qh,kj,hal]
   refine congrArg V.bl ?_
   rw [Bool.eq_iff_iff,decide_eq_true_iff,decide_eq_true_iff]
   constructor
   ·intro z;have:=V.int.inj z;lia
   ·intro z;rw [z]
  by_cases hz:ks'.length=rs.length
  ·rw [ki hz]
   refine iteT ⟨_,rfl,q g as H4 s04 (.inl rfl) hg4 ?_⟩
   unfold shM
   rw [kA hz]
   exact hR4
  rw [kh hz]
  refine iteF ⟨_,rfl,_,rfl,nu,g,rfl,⟨_,SqL.of hnu4⟩,⟨_,SqL.of hg4⟩,fun fl hfl=>z5l (K:=K) (a:=nu) (b:=g) (xs:=nv ks') (zs:=as.map V.ref) (by rw [qh,kj];lia)
   (fun i ys σ H5=>(∃a b:Option V,σ=[a,b])∧(∃as',ys=as'.map V.ref∧zr H5 as' ((putN ks' rs).take i)∧as'.length=i)∧Same H4 H5∧H5 fl=some (.lst ys))
   ⟨⟨none,none,rfl⟩,⟨[],rfl,.nil,rfl⟩,zg hfl _,z6⟩ (fun i ys σ H5 _ ⟨_,_,s5,_⟩=>⟨s5.seq (SqL.of hnu4),s5.seq (SqL.of hg4)⟩) ?_ ?_⟩
  ·rintro i x z p ys σ H5 hx hz' ⟨⟨a,b,rfl⟩,⟨as',rfl,hA,hAl⟩,s5,hf5⟩ hp
   have hil:i < ks'.length:=by have:=(kf.mp hx).1;rw [qh] at this;exact this
   rw [J3 hil] at hx
   cases hx
   obtain ⟨t,r,rfl,er,ht⟩:=(hR4.same s5).get hz'
   have s6:=zg hp (.tup [.int ((ks'.getD i 0:Nat):Int),.ref t])
   refine ⟨p,_,rfl,SqT.of z6,rfl,_,_,rfl,_,_,rfl,rfl,?_⟩
   refine ZW ?_
   refine ⟨_,rfl,_,rfl,t,_,_,_,rfl,rfl,SqT.of (s6 _ _ ht),zj (j:=2) rfl,by show 3≤sizeLine;decide,fun u hu=>?_⟩
   have s7:=s6.trans (zg hu (.tup [.str "swap",.int ((ks'.getD i 0:Nat):Int),.int r.line]))
   refine ⟨s7 _ _ hf5,?_,ks'.length - (i+1),by rw [qh];lia,by rw [qh],by rw [qh];lia,⟨_,_,rfl⟩,⟨as'++[u],by simp,?_,by rw [kl,hAl];rfl⟩,?_,z6⟩
   ·rw [kj,hAl,sizeLine_eq];lia
   ·have eput:(putN ks' rs)[i]?=some ⟨"swap",.int ((ks'.getD i 0:Nat):Int),r.line⟩:=by
     unfold putN
     rw [List.getElem?_zipWith,er,kK hil,List.getD_eq_getElem?_getD,kK hil]
     rfl
    have hfu:fl≠u:=fun z=>by
     have:=s6 _ _ hf5
     rw [z,hu] at this
     cases this
    rw [ju eput]
    refine zr.append (hA.keep fun c xs e=>?_) (.cons ?_ .nil)
    ·have:c≠fl:=fun z=>by rw [z,hf5] at e;cases e
     rw [zd this]
     exact s7 _ _ e
    ·rw [zd hfu.symm]
     exact z6
   ·exact My.Same.upd (s5.trans s7) hfl _
  ·rintro ys σ H5 ⟨_,⟨as',rfl,hA,hAl⟩,s5,hf5⟩
   refine q fl as' H5 (s04.trans s5) (.inr (s04.free hfl)) hf5 ?_
   unfold shM
   rw [kz hz]
   have:(putN ks' rs).length=ks'.length:=by unfold putN;rw [List.length_zipWith];lia
   rw [qh,List.take_of_length_le (by lia)] at hA
   exact hA
end
noncomputable def goS:Nat→List Nat→List Nat→List Nat
 | 0,_,_=>[]
 | f+1,ls,os=>match nxtS ls os with
  | none=>[]
  | some k=>k :: goS f (exch ls (k - 1)) os
theorem z61 {os:List Nat} {ls ks:List Nat} (h:WayC os ls ks):∀f,ks.length≤f→goS f ls os=ks:=by
 induction h with
 | done h _ _=>
  intro f _
  cases f with
  | zero=>rfl
  | succ f=>unfold goS;rw [h]
 | step h _ _ _ _ t ih=>
  intro f hf
  cases f with
  | zero=>exact absurd hf (by simp)
  | succ f=>
   unfold goS
   rw [h]
   dsimp only
   rw [ih f (by simpa using hf)]
noncomputable def js (ks:List Nat):List Nat:=goS 150 (List.range 9) (zC (List.range 9) ks)
theorem jI {ks:List Nat} (h:Nums 9 ks) (hl:ks.length≤150):WayC (zC (List.range 9) ks) (List.range 9) (js ks)∧((js ks).length:Int)=cost 9 (sw ks)∧Nums 9 (js ks)∧zC (List.range 9) (js ks)=zC (List.range 9) ks∧(js ks).length≤ks.length:=by
 obtain ⟨ks',w1,w2,w3,w4,w5⟩:=z29 (n:=9) (by decide) h
 have e:js ks=ks':=z61 w1 150 (by lia)
 rw [e]
 exact ⟨w1,w2,w3,w4,w5⟩
noncomputable def numR (r:Row):Nat:=match r.arg with
 | .int k=>k.toNat
 | _=>0
noncomputable def shG (rs:List Row):List Row:=shM (js (rs.map numR)) rs
noncomputable def swL:List Row→List Row→List Row
 | g,[]=>shG g
 | g,r :: rest=>if r.op="swap" then swL (g++[r]) rest else shG g++r :: swL [] rest
theorem Zk (g:List Row):swL g []=shG g:=by unfold swL;rfl
theorem jj (g:List Row) (r:Row) (rest:List Row):swL g (r :: rest)=if r.op="swap" then swL (g++[r]) rest else shG g++r :: swL [] rest:=by
 show swL g (r :: rest)=_
 conv=>lhs;unfold swL
def j8 (r:Row):Prop:=r.op="swap"→∃k:Nat,r.arg=.int (k:Nat)∧2≤k∧k≤9
theorem z60:∀{rs:List Row},(∀r∈rs,r.op="swap")→(∀r∈rs,j8 r)→Grp9 rs (rs.map numR)
 | [],_,_=>.nil
 | r :: rs,h,g=>by
  obtain ⟨k,e,h2,h9⟩:=g r (kP ..) (h r (kP ..))
  have en:numR r=k:=by unfold numR;rw [e];simp
  refine .cons ⟨h r (kP ..),by rw [en];exact e,by rw [en];exact h2,by rw [en];exact h9⟩ (z60 (fun x hx=>h x (kQ _ hx)) fun x hx=>g x (kQ _ hx))
theorem z5M {rs:List Row} (h:Grp9 rs (rs.map numR)) (hl:rs.length≤150):(shG rs).length=(js (rs.map numR)).length∧(shG rs).length≤rs.length:=by
 obtain ⟨_,_,_,_,b⟩:=jI h.nums (by rw [kj];exact hl)
 rw [kj] at b
 unfold shG shM
 by_cases z:(js (rs.map numR)).length=rs.length
 ·rw [kA z];exact ⟨z.symm,ke _⟩
 ·rw [kz z]
  unfold putN
  rw [List.length_zipWith]
  lia
section
def Jm:Sp:=fun vs H Q _=>∃(l:Addr) (as:List Addr) (rs:List Row),vs=[.ref l]∧H l=some (.lst (as.map V.ref))∧zr H as rs∧Code rs∧(qU rs).isSome=true∧rs.length≤150∧(∀r∈rs,j8 r)∧
 ∀d as' H',Same H H'→H d=none→H' d=some (.lst (as'.map V.ref))→zr H' as' (swL [] rs)→Q (.ref d) H'
theorem sc65:zf ["code","found","group","row"] ["code"] (zb (top 65)):=fsM
theorem z8w (D:zk K mg "swapped" (top 65)) (FS:FN P w K mg base 10 "states" ["code"] (QU K)) (FH:FN P w K mg base 3 "shortest" ["group"] z0g):FN P w K mg base 11 "swapped" ["code"] Jm:=by
 refine FN.o D sc65 fun f cdv A outer s H vs Q E hr h=>?_
 obtain ⟨l,as,rs,rfl,hl,hR,hc,hst,hn,hok,q⟩:=h
 have hr3:=hr.mono (show 3≤10 by decide)
 refine ⟨_,z7 (zy (zm FS hr rfl (z0 (pv 0) z8)))
  (z7 (zw (i:=1) sc65.nd rfl (Or.inl rfl) (qv z8))
  (z7 (zw (i:=2) sc65.nd rfl (Or.inl rfl) (qv z8))
  (z7 (jw PassesOwn.never rfl (Zo (pv 0)) (zp (i:=3) sc65.nd rfl (Or.inl rfl))
   (ze (zQ (zl qz (zD zU (pv 3) zh (fun _ _=>rfl)) zx (zo _))
    (ze (zy (z0r F.plainAttrs_list F.slot_list_append F.type_list_append Z3 (pv 2) (z0 (pv 3) z8))))
    (z7 (zy (z0r F.plainAttrs_list F.slot_list_extend F.type_list_extend z3f (pv 1) (z0 (zm FH hr3 rfl (z0 (pv 2) z8)) z8)))
    (z7 (zy (z0r F.plainAttrs_list F.slot_list_append F.type_list_append Z3 (pv 1) (z0 (pv 3) z8)))
    (ze (zw (i:=2) sc65.nd rfl (Or.inl rfl) (qv z8))))))))
  (ze (zi (zN z15 (pv 1) (zm FH hr3 rfl (z0 (pv 2) z8)))))))),?_⟩
 obtain ⟨fin,hfin⟩:=Option.isSome_iff_exists.mp hst
 have hal:as.length=rs.length:=hR.len
 refine ⟨_,rfl,l,as,rs,fin,rfl,hl,hR,hc,hfin,fun tl fvs H1 s1 _ _ _=>?_⟩
 refine ⟨by show 0≤sizeLine;decide,fun fl hfl=>?_⟩
 have s2:=s1.trans (zg hfl (.lst []))
 refine ⟨by show 0≤sizeLine;decide,fun gl hgl=>?_⟩
 have s23:=zg hgl (.lst [])
 have s3:=s2.trans s23
 have nfg:fl≠gl:=zc (H:=upd H1 fl (.lst [])) z6 hgl
 have hfl0:H fl=none:=s1.free hfl
 have hgl0:H gl=none:=s2.free hgl
 have qp:∀{H2:Hp} {gl:Addr} {gas:List Addr} {gr:List Row} {Q:VK} {E:XK},H2 gl=some (.lst (gas.map V.ref))→zr H2 gas gr→gr.length≤150→Grp9 gr (gr.map numR)→(∀d as' H',Same H2 H'→(d=gl∨H2 d=none)→H' d=some (.lst (as'.map V.ref))→zr H' as' (shG gr)→Q (.ref d) H')→z0g [.ref gl] H2 Q E:=fun h1 h2 h3 h4 h5=>by
  obtain ⟨b1,_,_,_,b5⟩:=jI h4.nums (by rw [kj];exact h3)
  rw [kj] at b5
  exact ⟨_,_,_,_,_,rfl,h1,h2,h3,h4,b1,b5,h5⟩
 refine ⟨_,rfl,l,rfl,⟨_,SqL.of (s3 _ _ hl)⟩,Jc (xs:=as.map V.ref) (fun i σ H2=>∃(x:Option V) (gl:Addr) (gas fas:List Addr) (gr fd:List Row),σ=[some (.ref l),some (.ref fl),some (.ref gl),x]∧H2 fl=some (.lst (fas.map V.ref))∧zr H2 fas fd∧H2 gl=some (.lst (gas.map V.ref))∧zr H2 gas gr∧fl≠gl∧H gl=none∧Grp9 gr (gr.map numR)∧fd.length+gr.length≤i∧fd++swL gr (rs.drop i)=swL [] rs∧Same H H2)
  ⟨_,gl,[],[],[],[],rfl,s23 _ _ z6,.nil,z6,.nil,nfg,hgl0,.nil,Nat.zero_le _,by rw [List.drop_zero];rfl,s3⟩ (fun i σ H2 _ ⟨_,_,_,_,_,_,_,_,_,_,_,_,_,_,_,_,sx⟩=>SqL.of (sx _ _ hl)) ?_ ?_⟩
 ·rintro i x σ H2 hi ⟨y,gl,gas,fas,gr,fd,rfl,hf2,hF2,hg2,hG2,nfg,hg0,hgg,hlen,hm,sH⟩
  obtain ⟨a,r,rfl,er,ha⟩:=(hR.same sH).get hi
  have hil:i < rs.length:=(kf.mp er).1
  have hrm:r∈rs:=kG er
  rw [List.drop_eq_getElem_cons hil,(kf.mp er).2] at hm
  rw [jj] at hm
  have hgl2:gas.length=gr.length:=hG2.len
  have hfl2:fas.length=fd.length:=hF2.len
  refine qS ?_
  refine ⟨_,rfl,a,_,_,_,rfl,rfl,SqT.of ha,zj (j:=0) rfl,rfl,decide (r.op="swap"),?_,?_⟩
  ·refine congrArg V.bl ?_
   rw [Bool.eq_iff_iff,decide_eq_true_iff,decide_eq_true_iff]
   exact ⟨V.str.inj,fun z=>by rw [z]⟩
  by_cases ho:r.op="swap"
  ·rw [ki ho]
   rw [kA ho] at hm
   refine iteT ⟨_,rfl,.inl ⟨rfl,_,SqL.of hg2⟩,_,rfl,gl,_,_,rfl,rfl,hg2,?_,?_⟩
   ·rw [kj,hgl2,sizeLine_eq];lia
   have ng:∀b o,H2 b=some o→b≠gl→upd H2 gl (.lst (gas.map V.ref++[.ref a])) b=some o:=fun b o e hb=>by rw [zd hb];exact e
   refine ⟨_,gl,gas++[a],fas,gr++[r],fd,rfl,ng _ _ hf2 nfg,hF2.keep fun c xs e=>ng _ _ e (fun z=>by rw [z,hg2] at e;cases e),by rw [z6,kJ];rfl,zr.append (hG2.keep fun c xs e=>ng _ _ e (fun z=>by rw [z,hg2] at e;cases e)) (.cons (ng _ _ ha (fun z=>by rw [z,hg2] at ha;cases ha)) .nil),nfg,hg0,?_,by rw [kl];show fd.length+(gr.length+1)≤i+1;lia,hm,My.Same.upd sH hg0 _⟩
   obtain ⟨k,e,h2,h9⟩:=hok r hrm ho
   have en:numR r=k:=by unfold numR;rw [e];simp
   rw [kJ]
   have app:∀{a b:List Row} {c d:List Nat},Grp9 a c→Grp9 b d→Grp9 (a++b) (c++d):=by
    intro a b c d h g
    unfold Grp9 at h g ⊢
    induction h with
    | nil=>exact g
    | cons x _ ih=>exact .cons x ih
   exact app hgg (.cons ⟨ho,by rw [en];exact e,by rw [en];exact h2,by rw [en];exact h9⟩ .nil)
  ·rw [kh ho]
   rw [kz ho] at hm
   refine iteF ⟨_,rfl,.inl ⟨rfl,_,SqL.of hf2⟩,_,rfl,qp hg2 hG2 (by lia) hgg fun d as' H3 s3 hd hd3 hA3=>?_⟩
   have hal':as'.length=(shG gr).length:=hA3.len
   have hsl:=(z5M hgg (by lia)).2
   have ndf:d≠fl:=by
    rcases hd with z | z
    ·rw [z];exact nfg.symm
    ·exact (zc hf2 z).symm
   refine ⟨fl,d,_,_,rfl,rfl,s3 _ _ hf2,hd3,by rw [kj,kj,sizeLine_eq];lia,?_⟩
   have n4:∀b o,H3 b=some o→b≠fl→upd H3 fl (.lst (fas.map V.ref++as'.map V.ref)) b=some o:=fun b o e hb=>by rw [zd hb];exact e
   refine ⟨_,rfl,.inl ⟨rfl,_,SqL.of z6⟩,_,rfl,fl,_,_,rfl,rfl,z6,?_,?_⟩
   ·rw [kl,kj,kj,sizeLine_eq];lia
   refine ⟨by show 0≤sizeLine;decide,fun g2 hg2'=>?_⟩
   have n5:∀b o,H2 b=some o→b≠fl→upd (upd (upd H3 fl (.lst (fas.map V.ref++as'.map V.ref))) fl (.lst (fas.map V.ref++as'.map V.ref++[.ref a]))) g2 (.lst []) b=some o:=fun b o e hb=>by
    have e3:=s3 _ _ e
    have nb:b≠g2:=fun z=>by rw [z] at e3 hb;rw [zd hb,zd hb,e3] at hg2';cases hg2'
    rw [zd nb,zd hb,zd hb]
    exact e3
   have nfg2:fl≠g2:=fun z=>by rw [z,z6] at hg2';cases hg2'
   have n6:∀b o,H3 b=some o→b≠fl→upd (upd (upd H3 fl (.lst (fas.map V.ref++as'.map V.ref))) fl (.lst (fas.map V.ref++as'.map V.ref++[.ref a]))) g2 (.lst []) b=some o:=fun b o e hb=>by
    have nb:b≠g2:=fun z=>by rw [z] at e hb;rw [zd hb,zd hb,e] at hg2';cases hg2'
    rw [zd nb,zd hb,zd hb]
    exact e
   have hf3:=s3 _ _ hf2
   refine ⟨_,g2,[],fas++as'++[a],[],fd++shG gr++[r],rfl,by rw [zd nfg2,z6];simp,zr.append (zr.append (hF2.keep fun c xs e=>n5 _ _ e (fun z=>by rw [z,hf2] at e;cases e)) (hA3.keep fun c xs e=>n6 _ _ e (fun z=>by rw [z,hf3] at e;cases e))) (.cons (n5 _ _ ha (fun z=>by rw [z,hf2] at ha;cases ha)) .nil),z6,.nil,nfg2,?_,.nil,?_,?_,fun b o e=>n5 _ _ (sH _ _ e) (zc e hfl0)⟩
   ·cases e:H g2 with
    | none=>rfl
    | some o=>
     have e3:=s3 _ _ (sH _ _ e)
     rw [zd nfg2.symm,zd nfg2.symm,e3] at hg2'
     cases hg2'
   ·rw [kl,kl]
    show fd.length+(shG gr).length+1+0≤i+1
    lia
   ·rw [←hm]
    simp
 ·rintro σ H2 ⟨y,gl,gas,fas,gr,fd,rfl,hf2,hF2,hg2,hG2,nfg,hg0,hgg,hlen,hm,sH⟩
  rw [kj,hal] at hlen
  rw [kj,hal,List.drop_length] at hm
  rw [Zk] at hm
  have hfl2:fas.length=fd.length:=hF2.len
  refine ⟨_,rfl,_,rfl,qp hg2 hG2 (by lia) hgg fun d as' H3 s3 hd hd3 hA3=>?_⟩
  have hal':as'.length=(shG gr).length:=hA3.len
  have hsl:=(z5M hgg (by lia)).2
  refine ⟨fl,d,_,_,rfl,rfl,s3 _ _ hf2,hd3,by rw [kj,kj,sizeLine_eq];lia,fun o ho=>?_⟩
  have s4:=zg ho (.lst (fas.map V.ref++as'.map V.ref))
  have sH4:=(sH.trans s3).trans s4
  refine q o (fas++as') _ sH4 ((sH.trans s3).free ho) (by rw [z6,kJ]) ?_
  rw [←hm]
  exact zr.append (hF2.same (s3.trans s4)) (hA3.same s4)
end
noncomputable def grM:List Nat→List Row→List (List Nat)
 | g,[]=>[g]
 | g,r :: rest=>if r.op="swap" then grM (g++[numR r]) rest else g :: grM [] rest
theorem z3y (g:List Nat):grM g []=[g]:=by unfold grM;rfl
theorem z1d (g:List Nat) (r:Row) (rest:List Row):grM g (r :: rest)=if r.op="swap" then grM (g++[numR r]) rest else g :: grM [] rest:=by
 conv=>lhs;unfold grM
theorem Qh {l t:List Nat} {i:Nat} (h:i < l.length):(l++t).getD i 0=l.getD i 0:=by
 rw [List.getD_eq_getElem?_getD,List.getD_eq_getElem?_getD,yf h]
theorem z63 {l t:List Nat} {i:Nat} (h:l.length≤i):(l++t).getD i 0=t.getD (i - l.length) 0:=by
 rw [List.getD_eq_getElem?_getD,List.getD_eq_getElem?_getD,yg h]
theorem Qi {p:Nat→Bool} {n:Nat} (h:∀i,n≤i→p i=false):∀m,(List.range (n+m)).filter p=(List.range n).filter p
 | 0=>rfl
 | m+1=>by
  rw [←Nat.add_assoc,List.range_succ,List.filter_append,Qi h m,List.filter_cons,kz (by rw [h _ (by lia)];exact ka)]
  exact kU _
theorem z0H {p q:Nat→Bool} {n:Nat} (h:∀i,i < n→p i=q i):(List.range n).filter p=(List.range n).filter q:=
 List.filter_congr fun i hi=>h i (List.mem_range.mp hi)
theorem z6P {l:List Nat} {x:Nat} (h:x∈l):l[l.idxOf x]?=some x:=by
 have hi:=List.idxOf_lt_length_of_mem h
 rw [kK hi,List.getElem_idxOf hi]
theorem z38 {ls os t:List Nat} (hl:ls.length=os.length) (h1:1≤os.length) (hm:ls.getD 0 0∈os):nxtS (ls++t) (os++t)=nxtS ls os:=by
 have e1:(ls++t).getD 0 0=ls.getD 0 0:=Qh (by lia)
 have e2:(os++t).getD 0 0=os.getD 0 0:=Qh (by lia)
 have e3:(List.range (os++t).length).filter (fun i=>decide ((ls++t).getD i 0≠(os++t).getD i 0))=(List.range os.length).filter (fun i=>decide (ls.getD i 0≠os.getD i 0)):=by
  rw [kl,Qi (fun i hi=>?_),z0H fun i hi=>?_]
  ·rw [Qh (by lia),Qh hi]
  ·rw [z63 (by lia),z63 hi,hl]
   simp
 have e4:(os++t).idxOf (ls.getD 0 0)=os.idxOf (ls.getD 0 0):=by
  have hi:=List.idxOf_lt_length_of_mem hm
  refine z3u _ _ _ ?_ fun j hj z=>?_
  ·rw [yf hi]
   exact z6P hm
  ·rw [yf (by lia)] at z
   exact z0y os _ j hj z
 unfold nxtS
 rw [e1,e2,e3,e4]
theorem z1h {l t:List Nat} {k:Nat} (hk:k < l.length):exch (l++t) k=exch l k++t:=by
 unfold exch
 rw [Qh hk,Qh (show 0 < l.length by lia),List.set_append_left (h:=by lia),List.set_append_left (h:=by rw [List.length_set];exact hk)]
theorem z09:∀(ks l t:List Nat),Nums l.length ks→zC (l++t) ks=zC l ks++t
 | [],_,_,_=>rfl
 | k :: ks,l,t,h=>by
  obtain ⟨h1,h2⟩:=h.hd
  show zC (exch (l++t) (k - 1)) ks=zC (exch l (k - 1)) ks++t
  rw [z1h (by lia),z09 ks _ t (by rw [jH];exact h.tl)]
theorem z6b {os ls ks t:List Nat} (h1:1≤os.length) (w:WayC os ls ks):WayC (os++t) (ls++t) ks:=by
 have mem:∀{ls:List Nat},ls.length=os.length→ls.getD 0 0∈os→(ls++t).getD 0 0∈os++t:=fun hl hm=>by
  rw [Qh (by lia)]
  exact kN _ hm
 induction w with
 | done h hl hm=>exact .done (by rw [z38 hl h1 hm];exact h) (by rw [kl,kl,hl]) (mem hl hm)
 | @step ls ks k h hl hm h2 hk _ ih=>
  refine .step (by rw [z38 hl h1 hm];exact h) (by rw [kl,kl,hl]) (mem hl hm) h2 (by rw [kl];lia) ?_
  rw [z1h (by lia)]
  exact ih
theorem z48 {m:Nat} {ks:List Nat} (h:Nums m ks) (hm:1≤m) (h9:m≤9) (hl:ks.length≤150):Nums m (js ks):=by
 obtain ⟨ks'',w1,w2,w3,w4,w5⟩:=z29 hm h
 have er:List.range 9=List.range m++(List.range 9).drop m:=by
  have:(List.range 9).take m=List.range m:=by rw [List.take_range,Nat.min_eq_left h9]
  conv=>lhs;rw [←List.take_append_drop m (List.range 9),this]
 have hlm:(List.range m).length=m:=List.length_range
 have ea:zC (List.range 9) ks=zC (List.range m) ks++(List.range 9).drop m:=by
  conv=>lhs;rw [er]
  exact z09 ks _ _ (by rw [hlm];exact h)
 have w:WayC (zC (List.range 9) ks) (List.range 9) ks'':=by
  rw [ea]
  conv=>arg 2;rw [er]
  exact z6b (by rw [qT,hlm];exact hm) w1
 have e:js ks=ks'':=z61 w 150 (by lia)
 rw [e]
 exact w3
noncomputable def nb (ks:List Nat):List Nat:=if (js ks).length=ks.length then ks else js ks
theorem z5V {ks:List Nat} (h:Nums 9 ks) (hl:ks.length≤150):(nb ks).length=(js ks).length∧(nb ks).length≤ks.length:=by
 obtain ⟨_,_,_,_,b⟩:=jI h hl
 unfold nb
 by_cases z:(js ks).length=ks.length
 ·rw [kA z];exact ⟨z.symm,ke _⟩
 ·rw [kz z];exact ⟨rfl,b⟩
set_option maxHeartbeats 4000000
def AllS (g:List Row):Prop:=∀r∈g,r.op="swap"
theorem AllS.nil:AllS []:=fun _ h=>by cases h
theorem AllS.app {a b:List Row} (h:AllS a) (g:AllS b):AllS (a++b):=fun r hr=>(kR.mp hr).elim (h r) (g r)
theorem AllS.one {r:Row} (h:r.op="swap"):AllS [r]:=fun x hx=>by rw [ko.mp hx];exact h
theorem z2O:∀(ks:List Nat) (rs:List Row),ks.length≤rs.length→(putN ks rs).map numR=ks
 | [],_,_=>by unfold putN;rfl
 | _ :: _,[],h=>by simp at h
 | k :: ks,r :: rs,h=>by
  show numR ⟨"swap",.int (k:Nat),r.line⟩ :: (putN ks rs).map numR=k :: ks
  rw [z2O ks rs (by simpa using h)]
  congr 1
theorem z2Q:∀(ks:List Nat) (rs:List Row),AllS (putN ks rs)
 | [],_=>AllS.nil
 | _ :: _,[]=>AllS.nil
 | k :: ks,r :: rs=>by
  intro x hx
  have hx:x∈(⟨"swap",.int (k:Nat),r.line⟩:Row) :: putN ks rs:=hx
  rcases kD.mp hx with z | z
  ·rw [z]
  ·exact z2Q ks rs x z
theorem ZQ {g:List Row} (h:AllS g) (ok:∀r∈g,j8 r):Nums 9 (g.map numR):=(z60 h ok).nums
theorem z7O {g:List Row} (h:AllS g):AllS (shG g):=by
 unfold shG shM
 split
 ·exact h
 ·exact z2Q _ _
theorem z0W {g:List Row} (h:AllS g) (ok:∀r∈g,j8 r) (hl:g.length≤150):(shG g).map numR=nb (g.map numR):=by
 obtain ⟨_,_,_,_,b⟩:=jI (ZQ h ok) (by rw [kj];exact hl)
 unfold shG shM nb
 rw [kj] at b ⊢
 by_cases z:(js (g.map numR)).length=g.length
 ·rw [kA z,kA z]
 ·rw [kz z,kz z,z2O _ _ b]
theorem z6Q:∀(rs:List Row) (g:List Nat) (B:Nat),Nums 9 g→(∀r∈rs,j8 r)→g.length+rs.length≤B→∀ks∈grM g rs,Nums 9 ks∧ks.length≤B
 | [],g,B,hg,_,hB,ks,hk=>by
  rw [z3y,ko] at hk
  subst hk
  exact ⟨hg,by simpa using hB⟩
 | r :: rs,g,B,hg,ok,hB,ks,hk=>by
  have okr:∀x∈rs,j8 x:=fun x hx=>ok x (kQ _ hx)
  rw [kO] at hB
  rw [z1d] at hk
  by_cases ho:r.op="swap"
  ·rw [kA ho] at hk
   obtain ⟨k,e,h2,h9⟩:=ok r (kP ..) ho
   have en:numR r=k:=by unfold numR;rw [e];simp
   refine z6Q rs (g++[numR r]) B (fun x hx=>?_) okr (by rw [kl];show g.length+1+_≤_;lia) ks hk
   rcases kR.mp hx with z | z
   ·exact hg x z
   ·rw [ko.mp z,en];exact ⟨h2,h9⟩
  ·rw [kz ho] at hk
   rcases kD.mp hk with z | z
   ·subst z;exact ⟨hg,by lia⟩
   ·exact z6Q rs [] B (fun _ h=>by cases h) okr (by show 0+rs.length≤B;lia) ks z
theorem z3k:∀(rs g:List Row),AllS g→(∀r∈g++rs,j8 r)→(g++rs).length≤150→(swL g rs).length+((grM (g.map numR) rs).map List.length).sum=g.length+rs.length+((grM (g.map numR) rs).map fun ks=>(nb ks).length).sum
 | [],g,h,ok,hl=>by
  rw [kU] at ok hl
  rw [Zk,z3y]
  have:=congrArg List.length (z0W h ok hl)
  rw [kj] at this
  simp only [kS,List.map_nil,List.sum_cons,List.sum_nil,kj,List.length_nil]
  lia
 | r :: rs,g,h,ok,hl=>by
  have okg:∀x∈g,j8 x:=fun x hx=>ok x (kN _ hx)
  have okr:∀x∈rs,j8 x:=fun x hx=>ok x (kM _ (kQ _ hx))
  rw [kl,kO] at hl
  rw [jj,z1d]
  by_cases ho:r.op="swap"
  ·rw [kA ho,kA ho]
   have:=z3k rs (g++[r]) (h.app (AllS.one ho)) (by rw [kW];exact ok) (by simp;lia)
   rw [kJ] at this
   have this:(swL (g++[r]) rs).length+((grM (g.map numR++[numR r]) rs).map List.length).sum=(g++[r]).length+rs.length+((grM (g.map numR++[numR r]) rs).map fun ks=>(nb ks).length).sum:=this
   rw [kl] at this
   rw [kO]
   have e:[r].length=1:=rfl
   lia
  ·rw [kz ho,kz ho]
   have a:=congrArg List.length (z0W h okg (by lia))
   rw [kj] at a
   have b:=z3k rs [] AllS.nil (by rw [List.nil_append];exact okr) (by simp;lia)
   simp only [kS,List.sum_cons,kl,kO,kj,List.map_nil,List.length_nil] at b ⊢
   lia
theorem z5z {f g:List Nat→Nat}:∀{l:List (List Nat)},(∀x∈l,f x≤g x)→(l.map f).sum≤(l.map g).sum
 | [],_=>ke _
 | x :: l,h=>by
  have:=z5z (l:=l) fun y hy=>h y (kQ _ hy)
  have:=h x (kP ..)
  simp only [kS,List.sum_cons]
  lia
inductive Go:Int→List Row→Int→Prop
 | nil (d:Int):Go d [] d
 | push {d d':Int} {l:List Row} {j:V} {ln:Int} (h0:0≤d) (hj:jm j=true∧okV j=true) (hl:0≤ln∧ln≤9999) (t:Go (d+1) l d'):Go d (⟨"push",j,ln⟩ :: l) d'
 | swap {d d':Int} {l:List Row} {k:Nat} {ln:Int} (h2:2≤k) (h9:k≤9) (hk:(k:Int)≤d) (hl:0≤ln∧ln≤9999) (t:Go d l d'):Go d (⟨"swap",.int (k:Nat),ln⟩ :: l) d'
 | copy {d d':Int} {l:List Row} {ln:Int} (h:1≤d) (hl:0≤ln∧ln≤9999) (t:Go (d+1) l d'):Go d (⟨"copy",.int 1,ln⟩ :: l) d'
 | tell {d d':Int} {l:List Row} {ln:Int} (h:1≤d) (hl:0≤ln∧ln≤9999) (t:Go (d - 1) l d'):Go d (⟨"tell",.non,ln⟩ :: l) d'
theorem Go.app {d d1 d2:Int} {a b:List Row} (h:Go d a d1) (g:Go d1 b d2):Go d (a++b) d2:=by
 induction h with
 | nil d=>exact g
 | push h0 hj hl t ih=>exact .push h0 hj hl (ih g)
 | swap h2 h9 hk hl t ih=>exact .swap h2 h9 hk hl (ih g)
 | copy h hl t ih=>exact .copy h hl (ih g)
 | tell h hl t ih=>exact .tell h hl (ih g)
theorem Go.split:∀{a b:List Row} {d d2:Int},Go d (a++b) d2→∃d1,Go d a d1∧Go d1 b d2
 | [],b,d,d2,h=>⟨d,.nil d,h⟩
 | r :: a,b,d,d2,h=>by
  cases h with
  | push h0 hj hl t=>
   obtain ⟨d1,h1,h2⟩:=Go.split t
   exact ⟨d1,.push h0 hj hl h1,h2⟩
  | swap h2 h9 hk hl t=>
   obtain ⟨d1,h1,h2'⟩:=Go.split t
   exact ⟨d1,.swap h2 h9 hk hl h1,h2'⟩
  | copy h hl t=>
   obtain ⟨d1,h1,h2⟩:=Go.split t
   exact ⟨d1,.copy h hl h1,h2⟩
  | tell h hl t=>
   obtain ⟨d1,h1,h2⟩:=Go.split t
   exact ⟨d1,.tell h hl h1,h2⟩
def SwR (d:Int) (r:Row):Prop:=∃(k:Nat) (ln:Int),r=⟨"swap",.int (k:Nat),ln⟩∧2≤k∧k≤9∧(k:Int)≤d∧0≤ln∧ln≤9999
theorem z14:("push":Str)≠"swap"∧("tell":Str)≠"swap":=by trivial
theorem z5T:("copy":Str)≠"swap":=by trivial
theorem Go.swaps:∀{g:List Row} {d d1:Int},AllS g→Go d g d1→d1=d∧∀r∈g,SwR d r
 | [],d,d1,_,h=>by cases h;exact ⟨rfl,fun _ h=>by cases h⟩
 | r :: g,d,d1,h,t=>by
  have h0:=h r (kP ..)
  have hg:AllS g:=fun x hx=>h x (kQ _ hx)
  cases t with
  | push _ _ _ _=>exact absurd h0 z14.1
  | copy _ _ _=>exact absurd h0 z5T
  | tell _ _ _=>exact absurd h0 z14.2
  | swap h2 h9 hk hl t=>
   obtain ⟨e,f⟩:=Go.swaps hg t
   refine ⟨e,fun x hx=>?_⟩
   rcases kD.mp hx with z | z
   ·subst z;exact ⟨_,_,rfl,h2,h9,hk,hl⟩
   ·exact f x z
theorem z1R:∀{g:List Row} {d:Int},(∀r∈g,SwR d r)→Go d g d
 | [],d,_=>.nil d
 | r :: g,d,h=>by
  obtain ⟨k,ln,e,h2,h9,hk,hl⟩:=h r (kP ..)
  subst e
  exact .swap h2 h9 hk hl (z1R fun x hx=>h x (kQ _ hx))
theorem Go.okS {d d':Int} {l:List Row} (h:Go d l d'):∀r∈l,j8 r:=by
 induction h with
 | nil d=>intro r hr;cases hr
 | push _ _ _ _ ih=>
  intro r hr
  rcases kD.mp hr with z | z
  ·subst z;exact fun z=>absurd z z14.1
  ·exact ih r z
 | swap h2 h9 _ _ _ ih=>
  intro r hr
  rcases kD.mp hr with z | z
  ·subst z;exact fun _=>⟨_,rfl,h2,h9⟩
  ·exact ih r z
 | copy _ _ _ ih=>
  intro r hr
  rcases kD.mp hr with z | z
  ·subst z;exact fun z=>absurd z z5T
  ·exact ih r z
 | tell _ _ _ ih=>
  intro r hr
  rcases kD.mp hr with z | z
  ·subst z;exact fun z=>absurd z z14.2
  ·exact ih r z
theorem z2P:∀(ks:List Nat) (rs:List Row) (r:Row),r∈putN ks rs→∃k∈ks,∃x∈rs,r=⟨"swap",.int (k:Nat),x.line⟩
 | [],_,_,h=>by cases h
 | _ :: _,[],_,h=>by cases h
 | k :: ks,x :: rs,r,h=>by
  have h:r∈(⟨"swap",.int (k:Nat),x.line⟩:Row) :: putN ks rs:=h
  rcases kD.mp h with z | z
  ·exact ⟨k,kP ..,x,kP ..,z⟩
  ·obtain ⟨k',h1,x',h2,e⟩:=z2P ks rs r z
   exact ⟨k',kQ _ h1,x',kQ _ h2,e⟩
theorem z6R {g:List Row} {d:Int} (h:AllS g) (t:Go d g d) (hl:g.length≤150):Go d (shG g) d:=by
 obtain ⟨_,f⟩:=Go.swaps h t
 refine z1R fun r hr=>?_
 unfold shG shM at hr
 by_cases z:(js (g.map numR)).length=g.length
 ·rw [kA z] at hr
  exact f r hr
 ·rw [kz z] at hr
  obtain ⟨k,hk,x,hx,e⟩:=z2P _ _ _ hr
  obtain ⟨k0,ln,ex,a1,a2,a3,a4,a5⟩:=f x hx
  have d2:2≤d:=by lia
  have nums:Nums (min d.toNat 9) (g.map numR):=fun y hy=>by
   obtain ⟨x',hx',ey⟩:=ye.mp hy
   obtain ⟨k1,ln1,ex1,b1,b2,b3,_⟩:=f x' hx'
   have:y=k1:=by rw [←ey,ex1];unfold numR;simp
   lia
  have:=z48 nums (by lia) (by lia) (by rw [kj];exact hl) k hk
  exact ⟨k,x.line,e,this.1,by lia,by lia,by rw [ex];exact ⟨a4,a5⟩⟩
theorem z3A:∀(rs g:List Row) (d d':Int),AllS g→Go d (g++rs) d'→(g++rs).length≤150→Go d (swL g rs) d'
 | [],g,d,d',h,t,hl=>by
  rw [kU] at t hl
  obtain ⟨e,_⟩:=Go.swaps h t
  subst e
  rw [Zk]
  exact z6R h t hl
 | r :: rs,g,d,d',h,t,hl=>by
  rw [jj]
  by_cases ho:r.op="swap"
  ·rw [kA ho]
   exact z3A rs (g++[r]) d d' (h.app (AllS.one ho)) (by rw [kW];exact t) (by rw [kW];exact hl)
  ·rw [kz ho]
   obtain ⟨d1,t1,t2⟩:=Go.split t
   obtain ⟨e,_⟩:=Go.swaps h t1
   subst e
   rw [kl,kO] at hl
   refine (z6R h t1 (by lia)).app ?_
   have sub:∀{d2:Int},Go d2 rs d'→Go d2 (swL [] rs) d':=fun t3=>z3A rs [] _ d' AllS.nil t3 (by simp;lia)
   cases t2 with
   | push h0 hj hl t=>exact .push h0 hj hl (sub t)
   | swap _ _ _ _ _=>exact absurd rfl ho
   | copy h hl t=>exact .copy h hl (sub t)
   | tell h hl t=>exact .tell h hl (sub t)
def Γ0:Int→Option Sta:=fun _=>none
structure Pl3 (op:Str):Prop where
 lab:op≠"label"
 et:op≠"endtry"
 jump:inT op jumping=false
 gput:tabI qj op=0
theorem z00 {r:Row} (h:Pl3 r.op) {d:Int} (hd:qZ r≤d) (l:List Row):chk Γ0 (r :: l) (some (d,[]))=chk Γ0 l (if inT r.op qc=true then none else some (zV r d,[])):=by
 have ok:jx r (d,[])=true:=by
  unfold jx Qy jQ
  simp only [List.getLast?_nil,Option.isNone_none,Bool.and_true,Bool.not_false,List.length_nil]
  rw [kh h.et,kh (show ¬d < qZ r by lia)]
  rfl
 have tg:tgts r (d,[])=[]:=by
  unfold tgts
  rw [h.jump,kz ka]
  simp only [List.getLast?_nil,List.nil_append]
  split <;> rfl
 have nx:Qw r (d,[])=if inT r.op qc=true then none else some (zV r d,[]):=by
  have e:qG r d [] (tabI qj r.op)=[]:=by
   unfold qG
   rw [h.gput,kz (show ¬((0:Int)=1) by decide),kz (show ¬((0:Int)= -1) by decide)]
  unfold Qw
  show (if inT r.op qc=true then none else some (zV r d,qG r d [] (tabI qj r.op)))=_
  rw [e]
 rw [z5m,kz h.lab]
 show (if jx r (d,[])=true∧(tgts r (d,[])).all (fun t=>decide (Γ0 t.1=some t.2))=true then chk Γ0 l (Qw r (d,[])) else none)=_
 rw [kA ⟨ok,by rw [tg];rfl⟩,nx]
theorem z2X:Pl3 "push":=⟨by trivial,by trivial,by trivial,by trivial⟩
theorem z2W:Pl3 "swap":=⟨by trivial,by trivial,by trivial,by trivial⟩
theorem z2V:Pl3 "tell":=⟨by trivial,by trivial,by trivial,by trivial⟩
theorem z2Y:Pl3 "copy":=⟨by trivial,by trivial,by trivial,by trivial⟩
theorem z8P:tabI qB "copy"=0∧tabI qE "copy"=1∧inT "copy" qY=true∧inT "copy" qc=false:=by trivial
theorem z5Q:Pl3 "return":=⟨by trivial,by trivial,by trivial,by trivial⟩
theorem z7z:tabI qB "push"=0∧tabI qE "push"=1∧tabI qB "swap"=0∧tabI qE "swap"=0∧tabI qB "tell"=1∧tabI qE "tell"=0∧tabI qB "return"=1∧inT "push" qY=false∧inT "swap" qY=true∧inT "tell" qY=false∧inT "return" qY=false∧inT "push" qc=false∧inT "swap" qc=false∧inT "tell" qc=false∧inT "return" qc=true:=by trivial
theorem z8r {d d':Int} {l:List Row} (h:Go d l d') (b:List Row):chk Γ0 (l++b) (some (d,[]))=chk Γ0 b (some (d',[])):=by
 obtain ⟨t1,t2,t3,t4,t5,t6,t7,p1,p2,p3,p4,n1,n2,n3,n4⟩:=z7z
 induction h with
 | nil d=>rfl
 | @push d d' l j ln h0 hj hl t ih=>
  rw [List.cons_append,z00 z2X (by unfold qZ;rw [p1,kz ka,t1];exact h0),n1,kz ka]
  have:zV ⟨"push",j,ln⟩ d=d+1:=by unfold zV;rw [t1,t2];lia
  rw [this]
  exact ih
 | @swap d d' l k ln h2 h9 hk hl t ih=>
  rw [List.cons_append,z00 z2W (by unfold qZ;rw [p2,kA rfl];exact hk),n2,kz ka]
  have:zV ⟨"swap",.int (k:Nat),ln⟩ d=d:=by unfold zV;rw [t3,t4];lia
  rw [this]
  exact ih
 | @copy d d' l ln h hl t ih=>
  obtain ⟨c1,c2,c3,c4⟩:=z8P
  rw [List.cons_append,z00 z2Y (by unfold qZ;rw [c3,kA rfl];exact h),c4,kz ka]
  have:zV ⟨"copy",.int 1,ln⟩ d=d+1:=by unfold zV;rw [c1,c2];lia
  rw [this]
  exact ih
 | @tell d d' l ln h hl t ih=>
  rw [List.cons_append,z00 z2V (by unfold qZ;rw [p3,kz ka,t5];exact h),n3,kz ka]
  have:zV ⟨"tell",.non,ln⟩ d=d - 1:=by unfold zV;rw [t5,t6];lia
  rw [this]
  exact ih
noncomputable def retR:Row:=⟨"return",.non,1⟩
theorem Zb {d':Int} {l:List Row} (h:Go 0 l d') (hd:1≤d') (hl:l.length≤149):(qU (l++[retR])).isSome=true:=by
 obtain ⟨t1,t2,t3,t4,t5,t6,t7,p1,p2,p3,p4,n1,n2,n3,n4⟩:=z7z
 have c:chk Γ0 (l++[retR]) (some (0,[]))=some none:=by
  rw [z8r h,z00 (r:=retR) z5Q (by unfold qZ;rw [show retR.op="return" from rfl,p4,kz ka,t7];exact hd),show retR.op="return" from rfl,n4,kA rfl]
  rfl
 have T:=z4d (rs:=l++[retR]) (fun m s e=>by cases e) c
 obtain ⟨fin,e,_⟩:=z2f T (by simp;lia)
 rw [e]
 rfl
theorem z5K:zM "push"=some ("value":Str)∧zM "swap"=some ("swapped":Str)∧zM "tell"=some ("none":Str)∧zM "return"=some ("none":Str):=by trivial
theorem z1a {ln:Int} (h:0≤ln∧ln≤9999):zZ (.int ln) 0 9999=true:=by
 show (decide (0≤ln)&&decide (ln≤9999))=true
 rw [ki h.1,ki h.2]
 rfl
theorem z6S {d d':Int} {l:List Row} (h:Go d l d'):∀r∈l,Zi r∧r.op≠"label"∧zM r.op≠some ("mark":Str):=by
 obtain ⟨s1,s2,s3,s4⟩:=z5K
 have nm:(("value":Str)≠"mark"∧("swapped":Str)≠"mark"∧("none":Str)≠"mark"):=by trivial
 induction h with
 | nil d=>intro r hr;cases hr
 | @push d d' l j ln h0 hj hl t ih=>
  intro r hr
  rcases kD.mp hr with z | z
  ·subst z
   refine ⟨?_,z2X.lab,by show zM "push"≠_;rw [s1];exact fun z=>nm.1 (kB z)⟩
   show rowV "push" j (.int ln)=true
   unfold rowV j9
   rw [s1]
   show (true&&jm j&&zZ (.int ln) 0 9999)=true
   rw [z1a hl,hj.1]
   rfl
  ·exact ih r z
 | @swap d d' l k ln h2 h9 hk hl t ih=>
  intro r hr
  rcases kD.mp hr with z | z
  ·subst z
   refine ⟨?_,z2W.lab,by show zM "swap"≠_;rw [s2];exact fun z=>nm.2.1 (kB z)⟩
   show rowV "swap" (.int (k:Nat)) (.int ln)=true
   unfold rowV j9
   rw [s2]
   show (true&&zZ (.int (k:Nat)) 2 9&&zZ (.int ln) 0 9999)=true
   rw [z1a hl]
   show (true&&(decide ((2:Int)≤(k:Nat))&&decide (((k:Nat):Int)≤9))&&true)=true
   rw [ki (by lia),ki (by lia)]
   rfl
  ·exact ih r z
 | @copy d d' l ln h hl t ih=>
  intro r hr
  rcases kD.mp hr with z | z
  ·subst z
   have sc:zM "copy"=some ("copied":Str):=by trivial
   refine ⟨?_,z2Y.lab,by show zM "copy"≠_;rw [sc];decide+kernel⟩
   show rowV "copy" (.int 1) (.int ln)=true
   unfold rowV j9
   rw [sc]
   show (true&&zZ (.int 1) 1 9&&zZ (.int ln) 0 9999)=true
   rw [z1a hl]
   rfl
  ·exact ih r z
 | @tell d d' l ln h hl t ih=>
  intro r hr
  rcases kD.mp hr with z | z
  ·subst z
   refine ⟨?_,z2V.lab,by show zM "tell"≠_;rw [s3];exact fun z=>nm.2.2 (kB z)⟩
   show rowV "tell" .non (.int ln)=true
   unfold rowV j9
   rw [s3]
   show (true&&z3b .non&&zZ (.int ln) 0 9999)=true
   rw [z1a hl]
   rfl
  ·exact ih r z
theorem Zu {d':Int} {l:List Row} (h:Go 0 l d') (hl:l.length≤149):Code (l++[retR]):=by
 obtain ⟨s1,s2,s3,s4⟩:=z5K
 have all:∀r∈l++[retR],Zi r∧r.op≠"label"∧zM r.op≠some ("mark":Str):=fun r hr=>by
  rcases kR.mp hr with z | z
  ·exact z6S h r z
  ·rw [ko.mp z]
   refine ⟨?_,z5Q.lab,by show zM "return"≠_;rw [s4];decide+kernel⟩
   show rowV "return" .non (.int 1)=true
   unfold rowV j9
   rw [s4]
   rfl
 refine ⟨fun r hr=>(all r hr).1,fun i r hi=>?_,by simp,by simp;lia⟩
 obtain ⟨_,a,b⟩:=all r (kG hi)
 unfold jr
 rw [kz a,kz b]
theorem z62 {d':Int} {l:List Row} (h:Go 0 l d'):∀r∈l++[retR],j8 r:=fun r hr=>by
 rcases kR.mp hr with z | z
 ·exact h.okS r z
 ·rw [ko.mp z]
  exact fun z=>absurd z (by show ("return":Str)≠"swap";decide+kernel)
theorem z0Q:∀(rs g:List Row),swL g (rs++[retR])=swL g rs++[retR]
 | [],g=>by
  rw [List.nil_append,jj,kz (by show ¬(("return":Str)="swap");decide+kernel),Zk,Zk]
  have:shG []=[]:=by
   unfold shG shM
   have h:(js ([].map numR)).length=([]:List Row).length:=by
    obtain ⟨_,_,_,_,b⟩:=jI (ks:=[]) (fun _ h=>by cases h) (by decide)
    exact Nat.le_zero.mp b
   rw [kA h]
  rw [this]
 | r :: rs,g=>by
  rw [List.cons_append,jj,jj]
  by_cases ho:r.op="swap"
  ·rw [kA ho,kA ho,z0Q rs]
  ·rw [kz ho,kz ho,z0Q rs]
   simp
theorem z6j {rs:List Row} (ok:∀r∈rs,j8 r) (hl:rs.length≤150):(swL [] rs).length≤rs.length:=by
 have a:=z3k rs [] AllS.nil (by rw [List.nil_append];exact ok) (by rw [List.nil_append];exact hl)
 have g:=z6Q rs [] 150 (fun _ h=>by cases h) ok (by show 0+rs.length≤150;lia)
 have s:=z5z (f:=fun ks=>(nb ks).length) (g:=List.length) (l:=grM [] rs) fun ks hk=>(z5V (g ks hk).1 (g ks hk).2).2
 have a:(swL [] rs).length+((grM [] rs).map List.length).sum=0+rs.length+((grM [] rs).map fun ks=>(nb ks).length).sum:=a
 lia
theorem Zg {rs:List Row} {d n p:Nat} {gs:List Gd} {r:Row} (h:rs[p]?=some r) (hs:r.op∉jW):j3 rs d (n+1) p gs=some (p,gs):=by
 have h1:r.op≠"label":=fun z=>hs (by rw [z];decide+kernel)
 have h2:r.op≠"try":=fun z=>hs (by rw [z];decide+kernel)
 have h3:r.op≠"endtry":=fun z=>hs (by rw [z];decide+kernel)
 unfold j3
 rw [h]
 dsimp only
 rw [kz h1,kz h2,kz h3]
noncomputable def exM:List Row→Mst→Option Mst
 | [],m=>some m
 | r :: l,m=>match rowM r.op r.arg m with
  | some (.next,m')=>exM l m'
  | _=>none
theorem qw {r:Row} {l:List Row} {m m':Mst} (h:rowM r.op r.arg m=some (.next,m')):exM (r :: l) m=exM l m':=by
 show (match rowM r.op r.arg m with
  | some (.next,m')=>exM l m'
  | _=>none)=_
 rw [h]
theorem Zv:∀(a b:List Row) (m:Mst),exM (a++b) m=(exM a m).bind fun m'=>exM b m'
 | [],b,m=>rfl
 | r :: a,b,m=>by
  show (match rowM r.op r.arg m with
   | some (.next,m')=>exM (a++b) m'
   | _=>none)=((match rowM r.op r.arg m with
   | some (.next,m')=>exM a m'
   | _=>none).bind fun m'=>exM b m')
  split
  ·exact Zv a b _
  ·rfl
theorem z6w (m:Mst) (arg:V) {v:V} (h:m.st.getLast?=some v):rowM "return" arg m=some (.value v,{ m with st:=m.st.dropLast }):=by
 have e0:rowM "return" arg m=jM "return" arg m:=by (unfold rowM;repeat (first | rw [kA (by trivial)] | rw [kz (by trivial)]))
 rw [e0]
 unfold jM
 rw [h]
theorem Z6 {rs:List Row} {ln:Int} {steps:Nat} (hs:∀r∈rs,r.op∉jW):∀(l pre:List Row) (m m':Mst) (pas:List Nat) (fuel:Nat) (v:V),rs=pre++l++[⟨"return",.non,ln⟩]→exM l m=some m'→m'.st.getLast?=some v→pas.length+l.length < steps→pas.length+l.length≤1000→l.length+1≤fuel→
  ∃pas',jp rs steps fuel m [] pas [.str "on"] (some pre.length)=some ({ m' with st:=m'.st.dropLast },pas',[.str "value",v])∧pas'.length=pas.length+l.length+1
 | [],pre,m,m',pas,fuel+1,v,e,hx,hv,h1,h2,_=>by
  cases hx
  have er:rs[pre.length]?=some ⟨"return",.non,ln⟩:=by rw [e];simp
  refine ⟨pas++[pre.length],?_,by simp⟩
  have st:ZG rs m [] pas pre.length=some ({ m with st:=m.st.dropLast },[],pas++[pre.length],[.str "value",v],none):=by
   unfold ZG
   rw [er]
   dsimp only
   rw [kA (show qp pas.length=true from ki (by simpa using h2)),z6w m .non hv]
  unfold jp
  rw [kA (by simpa using h1),kA rfl,st]
  cases fuel <;> rfl
 | r :: l,pre,m,m',pas,fuel+1,v,e,hx,hv,h1,h2,h3=>by
  cases hr:rowM r.op r.arg m with
  | none=>
   have:exM (r :: l) m=none:=by
    show (match rowM r.op r.arg m with
     | some (.next,m')=>exM l m'
     | _=>none)=none
    rw [hr]
   rw [this] at hx;cases hx
  | some z=>
   obtain ⟨res,m1⟩:=z
   cases res with
   | next=>
    rw [qw hr] at hx
    have er:rs[pre.length]?=some r:=by rw [e];simp
    have en:∃r',rs[pre.length+1]?=some r':=by
     have:pre.length+1 < rs.length:=by rw [e];simp
     exact ⟨rs[pre.length+1],kK this⟩
    obtain ⟨r',en⟩:=en
    rw [kO] at h1 h2 h3
    have st:ZG rs m [] pas pre.length=some (m1,[],pas++[pre.length],[.str "on"],some (pre.length+1)):=by
     unfold ZG
     rw [er]
     dsimp only
     rw [kA (show qp pas.length=true from ki (by lia)),hr]
     dsimp only
     rw [Zg en (hs r' (kG en))]
    obtain ⟨pas',ih,ihl⟩:=Z6 (ln:=ln) (steps:=steps) hs l (pre++[r]) m1 m' (pas++[pre.length]) fuel v (by rw [e];simp) hx hv (by rw [kl];show pas.length+1+_ < _;lia) (by rw [kl];show pas.length+1+_≤_;lia) (by lia)
    refine ⟨pas',?_,by rw [ihl];simp only [kl,kO,List.length_nil];lia⟩
    rw [kl] at ih
    unfold jp
    rw [kA (by lia),kA rfl,st]
    exact ih
   | _=>
    have:exM (r :: l) m=none:=by
     show (match rowM r.op r.arg m with
      | some (.next,m')=>exM l m'
      | _=>none)=none
     rw [hr]
    rw [this] at hx;cases hx
theorem z3g {rs:List Row} {steps:Nat} (hs:∀r∈rs,r.op∉jW) (h1000:steps≤1000):∀(k:Nat) (l pre post:List Row) (m m':Mst) (pas:List Nat) (fuel:Nat),rs=pre++l++post→post≠[]→pas.length+k=steps→k≤l.length→exM (l.take k) m=some m'→k≤fuel→
  ∃pas',jp rs steps fuel m [] pas [.str "on"] (some pre.length)=some (m',pas',[.str "on"])∧pas'.length=steps
 | 0,l,pre,post,m,m',pas,fuel,e,hp,hk,hl,hx,hf=>by
  cases hx
  refine ⟨pas,?_,by lia⟩
  cases fuel with
  | zero=>unfold jp;rw [kz (by lia)]
  | succ fuel=>unfold jp;rw [kz (by lia)]
 | k+1,[],pre,post,m,m',pas,fuel,e,hp,hk,hl,hx,hf=>absurd hl (by simp)
 | k+1,r :: l,pre,post,m,m',pas,0,e,hp,hk,hl,hx,hf=>absurd hf (by lia)
 | k+1,r :: l,pre,post,m,m',pas,fuel+1,e,hp,hk,hl,hx,hf=>by
  rw [List.take_succ_cons] at hx
  cases hr:rowM r.op r.arg m with
  | none=>
   have:exM (r :: l.take k) m=none:=by
    show (match rowM r.op r.arg m with
     | some (.next,m')=>exM (l.take k) m'
     | _=>none)=none
    rw [hr]
   rw [this] at hx;cases hx
  | some z=>
   obtain ⟨res,m1⟩:=z
   cases res with
   | next=>
    rw [qw hr] at hx
    have er:rs[pre.length]?=some r:=by rw [e];simp
    have en:∃r',rs[pre.length+1]?=some r':=by
     have:pre.length+1 < rs.length:=by
      have:=List.length_pos_iff.mpr hp
      rw [e];simp;lia
     exact ⟨rs[pre.length+1],kK this⟩
    obtain ⟨r',en⟩:=en
    have st:ZG rs m [] pas pre.length=some (m1,[],pas++[pre.length],[.str "on"],some (pre.length+1)):=by
     unfold ZG
     rw [er]
     dsimp only
     rw [kA (show qp pas.length=true from ki (by lia)),hr]
     dsimp only
     rw [Zg en (hs r' (kG en))]
    obtain ⟨pas',ih,ihl⟩:=z3g hs h1000 k l (pre++[r]) post m1 m' (pas++[pre.length]) fuel (by rw [e];simp) hp (by rw [kl];show pas.length+1+k=_;lia) (by simpa using hl) hx (by lia)
    refine ⟨pas',?_,ihl⟩
    rw [kl] at ih
    unfold jp
    rw [kA (by lia),kA rfl,st]
    exact ih
   | _=>
    have:exM (r :: l.take k) m=none:=by
     show (match rowM r.op r.arg m with
      | some (.next,m')=>exM (l.take k) m'
      | _=>none)=none
     rw [hr]
    rw [this] at hx;cases hx
noncomputable def Qj (xs:List V) (k:Nat):List V:=(xs.set 0 (xs.getD k .non)).set k (xs.getD 0 .non)
theorem Zd (xs:List V) (k:Nat):(Qj xs k).length=xs.length:=by simp [Qj]
theorem JU {xs:List V} {k:Nat} (h0:0 < k) (hk:k < xs.length) (i:Nat):(Qj xs k)[i]?=xs[ex 0 k i]?:=by
 have e0:0 < xs.length:=by lia
 unfold Qj
 by_cases z:i=0
 ·subst z
  rw [ex_l,List.getElem?_set_ne (by lia),List.getElem?_set_self e0,List.getD_eq_getElem?_getD,kK hk]
  rfl
 ·by_cases y:i=k
  ·subst y
   rw [ex_r,List.getElem?_set_self (by rw [List.length_set];exact hk),List.getD_eq_getElem?_getD,kK e0]
   rfl
  ·rw [ex_o z y,List.getElem?_set_ne (by lia),List.getElem?_set_ne (by lia)]
noncomputable def z1o:List V→List Nat→List V
 | xs,[]=>xs
 | xs,k :: ks=>z1o (Qj xs (k - 1)) ks
theorem Zy:∀(ks:List Nat) (xs:List V),Nums xs.length ks→∀i,(z1o xs ks)[i]?=xs[sw ks i]?
 | [],_,_,_=>rfl
 | k :: ks,xs,h,i=>by
  obtain ⟨h1,h2⟩:=h.hd
  show (z1o (Qj xs (k - 1)) ks)[i]?=xs[ex 0 (k - 1) (sw ks i)]?
  rw [Zy ks _ (by rw [Zd];exact h.tl),JU (by lia) (by lia)]
theorem z3N {xs:List V} {k:Nat} (h0:0 < k) (hk:k < xs.length):∀v∈Qj xs k,v∈xs:=fun v hv=>by
 obtain ⟨i,hi⟩:=List.mem_iff_getElem?.mp hv
 rw [JU h0 hk] at hi
 exact kG hi
theorem z2K {xs:List V} {i:Nat} (h:i < xs.length) (v:V):xs.reverse.set (xs.length - 1 - i) v=(xs.set i v).reverse:=by
 refine List.ext_getElem (by simp) fun j h1 h2=>?_
 have hj:j < xs.length:=by simpa using h1
 rw [List.getElem_set,List.getElem_reverse,List.getElem_reverse,List.getElem_set]
 simp only [List.length_set]
 by_cases z:xs.length - 1 - i=j
 ·rw [kA z,kA (by lia)]
 ·rw [kz z,kz (by lia)]
theorem Js {xs:List V} {k:Nat} (h2:2≤k) (hk:k≤xs.length) (m:Mst) (hm:m.st=xs.reverse):rowM "swap" (.int (k:Nat)) m=some (.next,{ m with st:=(Qj xs (k - 1)).reverse }):=by
 have e0:rowM "swap" (.int (k:Nat)) m=z0B "swap" (.int (k:Nat)) m:=by (unfold rowM;repeat (first | rw [kA (by trivial)] | rw [kz (by trivial)]))
 have hl:m.st.length=xs.length:=by rw [hm,List.length_reverse]
 have gd:∀i,i < xs.length→xs[i]?=some (xs.getD i .non):=fun i hi=>by rw [List.getD_eq_getElem?_getD,kK hi];rfl
 have hlast:m.st.getLast?=some (xs.getD 0 .non):=by
  rw [hm,List.getLast?_reverse,List.head?_eq_getElem?,gd 0 (by lia)]
 have hdeep:QA m.st (.int (k:Nat))=some (xs.length - k,xs.getD (k - 1) .non):=by
  unfold QA
  dsimp only
  rw [kA ⟨by lia,by rw [hl];lia⟩,hl,show ((k:Nat):Int).toNat=k by lia]
  have:m.st[xs.length - k]?=some (xs.getD (k - 1) .non):=by
   rw [hm,List.getElem?_reverse (by lia),show xs.length - 1 - (xs.length - k)=k - 1 by lia,gd _ (by lia)]
  rw [this]
  rfl
 rw [e0]
 unfold z0B
 rw [hdeep,hlast]
 dsimp only
 congr 3
 rw [hl,hm]
 have a1:xs.reverse.set (xs.length - 1) (xs.getD (k - 1) .non)=(xs.set 0 (xs.getD (k - 1) .non)).reverse:=by
  have:=z2K (xs:=xs) (i:=0) (by lia) (xs.getD (k - 1) .non)
  rw [Nat.sub_zero] at this
  exact this
 rw [a1]
 have:=z2K (xs:=xs.set 0 (xs.getD (k - 1) .non)) (i:=k - 1) (by rw [List.length_set];lia) (xs.getD 0 .non)
 rw [List.length_set,show xs.length - 1 - (k - 1)=xs.length - k by lia] at this
 exact this
theorem Ze:∀(g:List Row) (xs:List V) (m:Mst),(∀r∈g,SwR (xs.length:Int) r)→m.st=xs.reverse→exM g m=some { m with st:=(z1o xs (g.map numR)).reverse }
 | [],xs,m,_,hm=>by
  show some m=some { m with st:=xs.reverse }
  rw [←hm]
 | r :: g,xs,m,h,hm=>by
  obtain ⟨k,ln,e,h2,h9,hk,_⟩:=h r (kP ..)
  have en:numR r=k:=by rw [e];unfold numR;simp
  have er:rowM r.op r.arg m=some (.next,{ m with st:=(Qj xs (k - 1)).reverse }):=by rw [e];exact Js h2 (by lia) m hm
  rw [qw er,Ze g (Qj xs (k - 1)) _ (by rw [Zd];exact fun x hx=>h x (kQ _ hx)) rfl,kS,en]
  rfl
theorem z3a {g:List Row} {n:Nat} (h:∀r∈g,SwR (n:Int) r):Nums n (g.map numR):=fun y hy=>by
 obtain ⟨x,hx,e⟩:=ye.mp hy
 obtain ⟨k,ln,ex,h2,h9,hk,_⟩:=h x hx
 have:y=k:=by rw [←e,ex];unfold numR;simp
 lia
theorem QL {g:List Row} {d:Int} (h:AllS g) (t:Go d g d) (hl:g.length≤150) (m:Mst) (hm:(m.st.length:Int)=d):exM (shG g) m=exM g m:=by
 obtain ⟨_,f⟩:=Go.swaps h t
 obtain ⟨_,f2⟩:=Go.swaps (z7O h) (z6R h t hl)
 have hx:m.st=m.st.reverse.reverse:=(List.reverse_reverse _).symm
 have hd:((m.st.reverse.length:Nat):Int)=d:=by rw [List.length_reverse];exact hm
 rw [←hd] at f f2
 rw [Ze g m.st.reverse m f hx,Ze (shG g) m.st.reverse m f2 hx]
 have ok:∀r∈g,j8 r:=t.okS
 congr 3
 refine List.ext_getElem? fun i=>?_
 rw [Zy _ _ (z3a f2),Zy _ _ (z3a f),z0W h ok hl]
 unfold nb
 split
 ·rfl
 ·obtain ⟨_,_,b3,b4,_⟩:=jI (ZQ h ok) (by rw [kj];exact hl)
  rw [z90 b3 (ZQ h ok) b4 i]
structure Ok2 (m:Mst) (n:Nat):Prop where
 st:okVs m.st
 sd:okVs m.sd
 lst:m.st.length≤n
 lsd:m.sd.length≤n
theorem z4p {m:Mst} {n:Nat} {a:V} (h:Ok2 m n) (hn:n≤1000) (ha:okV a=true):rowM "push" a m=some (.next,{ m with st:=m.st++[a] })∧Ok2 { m with st:=m.st++[a] } (n+1):=by
 have e0:rowM "push" a m=z0C "push" a m:=by (unfold rowM;repeat (first | rw [kA (by trivial)] | rw [kz (by trivial)]))
 refine ⟨?_,⟨h.st.app (okVs.one ha),h.sd,?_,Nat.le_succ_of_le h.lsd⟩⟩
 ·rw [e0]
  unfold z0C
  rw [kA (QW h.lst hn)]
 ·show (m.st++[a]).length≤n+1
  have:=h.lst
  rw [kl]
  show m.st.length+1≤n+1
  lia
theorem z4q {m:Mst} {n:Nat} (h:Ok2 m n) (hn:n≤1000) (h1:1≤m.st.length):∃a,rowM "copy" (.int 1) m=some (.next,{ m with st:=m.st++[a] })∧Ok2 { m with st:=m.st++[a] } (n+1):=by
 have e0:rowM "copy" (.int 1) m=z0D "copy" (.int 1) m:=by (unfold rowM;repeat (first | rw [kA (by trivial)] | rw [kz (by trivial)]))
 obtain ⟨ys,x,e⟩:=z2g h1
 have hx:okV x=true:=by have:=h.st;rw [e] at this;exact this.last
 have dp:QA m.st (.int 1)=some (m.st.length - 1,x):=by
  unfold QA
  dsimp only
  rw [kA ⟨by decide,h1⟩]
  have:m.st[m.st.length - (1:Int).toNat]?=some x:=by rw [e];simp
  rw [this]
  rfl
 refine ⟨x,?_,⟨h.st.app (okVs.one hx),h.sd,?_,Nat.le_succ_of_le h.lsd⟩⟩
 ·rw [e0]
  unfold z0D
  rw [dp]
  dsimp only
  rw [kA (QW h.lst hn)]
 ·show (m.st++[x]).length≤n+1
  have:=h.lst
  rw [kl]
  show m.st.length+1≤n+1
  lia
theorem z4n {m:Mst} {n:Nat} {v:V} (h:Ok2 m n) (hn:n≤1000) (h1:1≤m.st.length):∃a,rowM "tell" v m=some (.next,{ m with st:=m.st.dropLast,sd:=m.sd++[a] })∧Ok2 { m with st:=m.st.dropLast,sd:=m.sd++[a] } (n+1):=by
 have e0:rowM "tell" v m=z0A "tell" v m:=by (unfold rowM;repeat (first | rw [kA (by trivial)] | rw [kz (by trivial)]))
 obtain ⟨ys,x,e⟩:=z2g h1
 have hx:okV x=true:=by have:=h.st;rw [e] at this;exact this.last
 refine ⟨x,?_,⟨fun y hy=>h.st y (List.dropLast_subset _ hy),h.sd.app (okVs.one hx),?_,?_⟩⟩
 ·rw [e0]
  unfold z0A
  have:m.st.getLast?=some x:=by rw [e];simp
  rw [this]
  dsimp only
  rw [kA (QW h.lsd hn)]
 ·show m.st.dropLast.length≤n+1
  have:=h.lst
  rw [List.length_dropLast]
  lia
 ·show (m.sd++[x]).length≤n+1
  have:=h.lsd
  rw [kl]
  show m.sd.length+1≤n+1
  lia
theorem z2J {m:Mst} {n k:Nat} (h:Ok2 m n) (h2:2≤k) (hk:k≤m.st.length):∃st,rowM "swap" (.int (k:Nat)) m=some (.next,{ m with st:=st })∧Ok2 { m with st:=st } (n+1)∧st.length=m.st.length:=by
 have hl:m.st.reverse.length=m.st.length:=List.length_reverse
 refine ⟨_,Js (xs:=m.st.reverse) h2 (by rw [hl];exact hk) m (List.reverse_reverse _).symm,⟨fun y hy=>?_,h.sd,?_,Nat.le_succ_of_le h.lsd⟩,?_⟩
 ·have:=z3N (xs:=m.st.reverse) (k:=k - 1) (by lia) (by lia) y (List.mem_reverse.mp hy)
  exact h.st y (List.mem_reverse.mp this)
 ·show (Qj m.st.reverse (k - 1)).reverse.length≤n+1
  rw [List.length_reverse,Zd,hl]
  have:=h.lst
  lia
 ·rw [List.length_reverse,Zd,hl]
theorem Go.run {d d':Int} {l:List Row} (h:Go d l d'):∀(m:Mst) (n:Nat),(m.st.length:Int)=d→Ok2 m n→n+l.length≤1000→∃m',exM l m=some m'∧(m'.st.length:Int)=d'∧Ok2 m' (n+l.length)∧m.sd <+: m'.sd:=by
 induction h with
 | nil d=>exact fun m n hm hO _=>⟨m,rfl,hm,hO,z4s _⟩
 | push h0 hj hl t ih=>
  intro m n hm hO hn
  rw [kO] at hn
  obtain ⟨e,o⟩:=z4p hO (by lia) hj.2
  obtain ⟨m',a,b,c,p⟩:=ih _ (n+1) (by show ((m.st++[_]).length:Int)=_;rw [kl];show ((m.st.length+1:Nat):Int)=_;lia) o (by lia)
  exact ⟨m',by rw [qw e];exact a,b,by rw [kO,Nat.add_comm _ 1,←Nat.add_assoc];exact c,p⟩
 | swap h2 h9 hk hl t ih=>
  intro m n hm hO hn
  rw [kO] at hn
  obtain ⟨st,e,o,hs⟩:=z2J hO h2 (by lia)
  obtain ⟨m',a,b,c,p⟩:=ih _ (n+1) (by show (st.length:Int)=_;rw [hs];exact hm) o (by lia)
  exact ⟨m',by rw [qw e];exact a,b,by rw [kO,Nat.add_comm _ 1,←Nat.add_assoc];exact c,p⟩
 | copy h hl t ih=>
  intro m n hm hO hn
  rw [kO] at hn
  obtain ⟨x,e,o⟩:=z4q hO (by lia) (by lia)
  obtain ⟨m',a,b,c,p⟩:=ih _ (n+1) (by show ((m.st++[_]).length:Int)=_;rw [kl];show ((m.st.length+1:Nat):Int)=_;lia) o (by lia)
  exact ⟨m',by rw [qw e];exact a,b,by rw [kO,Nat.add_comm _ 1,←Nat.add_assoc];exact c,p⟩
 | tell h hl t ih=>
  intro m n hm hO hn
  rw [kO] at hn
  obtain ⟨x,e,o⟩:=z4n (v:=.non) hO (by lia) (by lia)
  obtain ⟨m',a,b,c,p⟩:=ih _ (n+1) (by show (m.st.dropLast.length:Int)=_;rw [List.length_dropLast];lia) o (by lia)
  exact ⟨m',by rw [qw e];exact a,b,by rw [kO,Nat.add_comm _ 1,←Nat.add_assoc];exact c,(List.prefix_append _ _).trans p⟩
theorem z64 {g:List Row} {d:Int} {m:Mst} (f:∀r∈g,SwR d r) (hm:(m.st.length:Int)=d):∃m',exM g m=some m'∧m'.sd=m.sd:=by
 have hx:m.st=m.st.reverse.reverse:=(List.reverse_reverse _).symm
 have hd:((m.st.reverse.length:Nat):Int)=d:=by rw [List.length_reverse];exact hm
 rw [←hd] at f
 exact ⟨_,Ze g m.st.reverse m f hx,rfl⟩
theorem Go.step {d d':Int} {r:Row} {l:List Row} (h:Go d (r :: l) d') (m:Mst) (n:Nat) (hm:(m.st.length:Int)=d) (hO:Ok2 m n) (hn:n+1≤1000):∃d1 m1,rowM r.op r.arg m=some (.next,m1)∧(m1.st.length:Int)=d1∧Ok2 m1 (n+1)∧Go d1 l d':=by
 obtain ⟨d1,h1,h2⟩:=Go.split (a:=[r]) h
 obtain ⟨m1,a,b,c,_⟩:=h1.run m n hm hO (by show n+1≤1000;exact hn)
 refine ⟨d1,m1,?_,b,c,h2⟩
 have a:(match rowM r.op r.arg m with
  | some (.next,m')=>some m'
  | _=>none)=some m1:=a
 split at a
 ·rename_i m2 e
  cases a
  exact e
 ·cases a
theorem z0c:∀(rs g:List Row) (d d':Int) (m:Mst) (n:Nat),AllS g→Go d (g++rs) d'→(g++rs).length≤150→(m.st.length:Int)=d→Ok2 m n→n+(g++rs).length≤1000→
  exM (swL g rs) m=exM (g++rs) m∧∀j,j≤(g++rs).length→∃i,i≤j∧i≤(swL g rs).length∧∃m1 m2,exM ((g++rs).take j) m=some m1∧exM ((swL g rs).take i) m=some m2∧m1.sd=m2.sd
 | [],g,d,d',m,n,h,t,hl,hm,hO,hn=>by
  rw [kU] at t hl hn ⊢
  obtain ⟨e,f⟩:=Go.swaps h t
  subst e
  refine ⟨by rw [Zk];exact QL h t hl m hm,fun j hj=>⟨0,Nat.zero_le _,Nat.zero_le _,?_⟩⟩
  obtain ⟨m1,e1,s1⟩:=z64 (g:=g.take j) (fun r hr=>f r (List.mem_of_mem_take hr)) hm
  exact ⟨m1,m,e1,rfl,s1⟩
 | r :: rs,g,d,d',m,n,h,t,hl,hm,hO,hn=>by
  rw [jj]
  by_cases ho:r.op="swap"
  ·rw [kA ho]
   have e:g++r :: rs=g++[r]++rs:=by simp
   rw [e] at t hl hn ⊢
   exact z0c rs (g++[r]) d d' m n (h.app (AllS.one ho)) t hl hm hO hn
  ·rw [kz ho]
   obtain ⟨d1,t1,t2⟩:=Go.split t
   obtain ⟨e,f⟩:=Go.swaps h t1
   subst e
   have hlg:g.length+(rs.length+1)≤150:=by rw [kl,kO] at hl;exact hl
   have hng:n+(g.length+(rs.length+1))≤1000:=by rw [kl,kO] at hn;exact hn
   obtain ⟨m1,a1,b1,c1,p1⟩:=t1.run m n hm hO (by lia)
   obtain ⟨d2,m2,a2,b2,c2,t3⟩:=t2.step m1 (n+g.length) b1 c1 (by lia)
   have gs:=QL h t1 (by lia) m hm
   obtain ⟨ih1,ih2⟩:=z0c rs [] d2 d' m2 (n+g.length+1) AllS.nil t3 (by rw [List.nil_append];lia) b2 c2 (by rw [List.nil_append];lia)
   rw [List.nil_append] at ih1 ih2
   have ok:∀r∈g,j8 r:=t1.okS
   have shl:(shG g).length≤g.length:=by
    have e:=congrArg List.length (z0W h ok (by lia))
    rw [kj] at e
    have:=(z5V (ZQ h ok) (by rw [kj];lia)).2
    rw [kj] at this
    lia
   refine ⟨?_,fun j hj=>?_⟩
   ·rw [Zv,Zv,gs,a1]
    show exM (r :: swL [] rs) m1=exM (r :: rs) m1
    rw [qw a2,qw a2,ih1]
   ·by_cases hz:j≤g.length
    ·refine ⟨0,Nat.zero_le _,Nat.zero_le _,?_⟩
     obtain ⟨m3,e3,s3⟩:=z64 (g:=g.take j) (fun r hr=>f r (List.mem_of_mem_take hr)) hm
     exact ⟨m3,m,by rw [List.take_append_of_le_length hz];exact e3,rfl,s3⟩
    ·rw [kl,kO] at hj
     obtain ⟨j',ej⟩:∃j',j=g.length+(j'+1):=⟨j - g.length - 1,by lia⟩
     subst ej
     obtain ⟨i,hi1,hi2,m3,m4,x1,x2,x3⟩:=ih2 j' (by lia)
     refine ⟨(shG g).length+(i+1),by lia,by rw [kl,kO];lia,m3,m4,?_,?_,x3⟩
     ·rw [List.take_length_add_append,Zv,a1]
      show exM ((r :: rs).take (j'+1)) m1=some m3
      rw [List.take_succ_cons,qw a2]
      exact x1
     ·rw [List.take_length_add_append,Zv,gs,a1]
      show exM ((r :: swL [] rs).take (i+1)) m1=some m4
      rw [List.take_succ_cons,qw a2]
      exact x2
theorem Go.take {d d':Int} {l:List Row} (h:Go d l d') (i:Nat):∃d1,Go d (l.take i) d1∧Go d1 (l.drop i) d':=by
 rw [←List.take_append_drop i l] at h
 exact Go.split h
theorem z3z {d':Int} {l:List Row} (h:Go 0 l d') (hl:l.length≤149) (kvs:List (Key × V)) (i:Nat):∃m',exM (l.take i) ⟨[],kvs,[]⟩=some m'∧okVs m'.sd∧m'.sd.length≤149:=by
 obtain ⟨d1,h1,_⟩:=h.take i
 have hn:(l.take i).length≤149:=by rw [List.length_take];lia
 obtain ⟨m',a,b,c,_⟩:=h1.run ⟨[],kvs,[]⟩ 0 rfl ⟨okVs.nil,okVs.nil,ke _,ke _⟩ (by lia)
 exact ⟨m',a,c.sd,by have:=c.lsd;lia⟩
theorem z2D {d':Int} {l:List Row} (h:Go 0 l d') (hl:l.length≤149) (kvs:List (Key × V)) {i j:Nat} (hij:i≤j) {m1 m2:Mst} (e1:exM (l.take i) ⟨[],kvs,[]⟩=some m1) (e2:exM (l.take j) ⟨[],kvs,[]⟩=some m2):m1.sd <+: m2.sd:=by
 obtain ⟨d1,h1,_⟩:=h.take j
 obtain ⟨d2,h2,h3⟩:=h1.take i
 have et:(l.take j).take i=l.take i:=by rw [List.take_take,Nat.min_eq_left hij]
 rw [et] at h2
 have hn:(l.take i).length≤149:=by rw [List.length_take];lia
 obtain ⟨m',a,b,c,_⟩:=h2.run ⟨[],kvs,[]⟩ 0 rfl ⟨okVs.nil,okVs.nil,ke _,ke _⟩ (by lia)
 rw [e1] at a
 cases a
 have hm:((l.take j).drop i).length≤149:=by rw [List.length_drop,List.length_take];lia
 obtain ⟨m',a,_,_,p⟩:=h3.run m1 _ b c (by lia)
 have:exM (l.take j) ⟨[],kvs,[]⟩=some m':=by
  rw [←List.take_append_drop i (l.take j),et,Zv,e1]
  exact a
 rw [this] at e2
 cases e2
 exact p
theorem sil5:∀z∈(["push","swap","copy","tell","return"]:List Str),z∉jW:=by trivial
theorem z1e {d d':Int} {l:List Row} (h:Go d l d'):∀r∈l++[retR],r.op∉jW:=by
 have hl:∀r∈l,r.op∉jW:=by
  induction h with
  | nil d=>intro r hr;cases hr
  | push _ _ _ _ ih=>intro r hr;rcases kD.mp hr with z | z;· { subst z;exact sil5 _ (by simp) };· exact ih r z
  | swap _ _ _ _ _ ih=>intro r hr;rcases kD.mp hr with z | z;· { subst z;exact sil5 _ (by simp) };· exact ih r z
  | copy _ _ _ ih=>intro r hr;rcases kD.mp hr with z | z;· { subst z;exact sil5 _ (by simp) };· exact ih r z
  | tell _ _ _ ih=>intro r hr;rcases kD.mp hr with z | z;· { subst z;exact sil5 _ (by simp) };· exact ih r z
 intro r hr
 rcases kR.mp hr with z | z
 ·exact hl r z
 ·rw [ko.mp z];exact sil5 _ (show retR.op∈_ by simp [retR])
theorem z5N {d':Int} {l:List Row} (h:Go 0 l d') (hd:1≤d') (hl:l.length≤149) {kvs:List (Key × V)} {steps:Nat} (hs:steps≤l.length) {m':Mst} (e:exM (l.take steps) ⟨[],kvs,[]⟩=some m'):runM (l++[retR]) kvs steps=some ([.str "on"],m'.sd,steps):=by
 have snd:=Zb h hd hl
 unfold runM
 cases hst:qU (l++[retR]) with
 | none=>rw [hst] at snd;cases snd
 | some fin=>
  dsimp only
  obtain ⟨r0,h0⟩:∃r0,(l++[retR])[0]?=some r0:=⟨(l++[retR])[0]'(by simp),kK _⟩
  rw [Zg h0 (z1e h r0 (kG h0))]
  dsimp only
  obtain ⟨pas',lp,pl⟩:=z3g (rs:=l++[retR]) (steps:=steps) (z1e h) (by lia) steps l [] [retR] ⟨[],kvs,[]⟩ m' [] 500 rfl (by simp) (by simp) hs e (by lia)
  have lp:jp (l++[retR]) steps 500 ⟨[],kvs,[]⟩ [] [] [.str "on"] (some 0)=some (m',pas',[.str "on"]):=lp
  rw [lp,←pl]
theorem z0n {d':Int} {l:List Row} (h:Go 0 l d') (hd:1≤d') (hl:l.length≤149) {kvs:List (Key × V)} {steps:Nat} (hs:l.length < steps) {m':Mst} {v:V} (e:exM l ⟨[],kvs,[]⟩=some m') (hv:m'.st.getLast?=some v):runM (l++[retR]) kvs steps=some ([.str "value",v],m'.sd,l.length+1):=by
 have snd:=Zb h hd hl
 unfold runM
 cases hst:qU (l++[retR]) with
 | none=>rw [hst] at snd;cases snd
 | some fin=>
  dsimp only
  obtain ⟨r0,h0⟩:∃r0,(l++[retR])[0]?=some r0:=⟨(l++[retR])[0]'(by simp),kK _⟩
  rw [Zg h0 (z1e h r0 (kG h0))]
  dsimp only
  obtain ⟨pas',lp,pl⟩:=Z6 (rs:=l++[retR]) (ln:=1) (steps:=steps) (z1e h) l [] ⟨[],kvs,[]⟩ m' [] 500 v rfl e hv (by simpa using hs) (by simp;lia) (by lia)
  have lp:jp (l++[retR]) steps 500 ⟨[],kvs,[]⟩ [] [] [.str "on"] (some 0)=some ({ m' with st:=m'.st.dropLast },pas',[.str "value",v]):=lp
  rw [lp]
  show some (_,m'.sd,pas'.length)=_
  rw [pl]
  simp
structure z68 (e1 sd1:List V) (n1:Nat) (e2 sd2:List V) (n2:Nat):Prop where
 on:e2=[.str "on"]→sd2 <+: sd1
 off:e2≠[.str "on"]→e1=e2∧sd1=sd2∧n1≤n2
 sh1:e1=[.str "on"]∨∃v,e1=[.str "value",v]∧okV v=true
 sh2:e2=[.str "on"]∨∃v,e2=[.str "value",v]∧okV v=true
 sd1:okVs sd1∧sd1.length≤149
 sd2:okVs sd2∧sd2.length≤149
theorem z1x {d':Int} {l:List Row} (h:Go 0 l d') (hd:1≤d') (hl:l.length≤149) (kvs:List (Key × V)) (steps:Nat):∃e1 sd1 n1 e2 sd2 n2,runM (swL [] l++[retR]) kvs steps=some (e1,sd1,n1)∧runM (l++[retR]) kvs steps=some (e2,sd2,n2)∧z68 e1 sd1 n1 e2 sd2 n2:=by
 have hO:Ok2 ⟨[],kvs,[]⟩ 0:=⟨okVs.nil,okVs.nil,ke _,ke _⟩
 have hle:=z6j h.okS (by lia)
 have h2:Go 0 (swL [] l) d':=z3A l [] 0 d' AllS.nil h (by rw [List.nil_append];lia)
 obtain ⟨same,told⟩:=z0c l [] 0 d' ⟨[],kvs,[]⟩ 0 AllS.nil h (by rw [List.nil_append];lia) rfl hO (by rw [List.nil_append];lia)
 rw [List.nil_append] at same told
 obtain ⟨mE,aE,bE,cE,_⟩:=h.run ⟨[],kvs,[]⟩ 0 rfl hO (by lia)
 obtain ⟨ys,v,ev⟩:=z2g (l:=mE.st) (by lia)
 have hv:mE.st.getLast?=some v:=by rw [ev];simp
 have ok:okV v=true:=by have:=cE.st;rw [ev] at this;exact this.last
 have sE:okVs mE.sd∧mE.sd.length≤149:=⟨cE.sd,by have:=cE.lsd;lia⟩
 by_cases hs:steps≤l.length
 ·obtain ⟨m2,e2,s2⟩:=z3z h hl kvs steps
  have r2:=z5N h hd hl hs e2
  obtain ⟨i,i1,i2,m3,m4,x1,x2,x3⟩:=told steps hs
  rw [e2] at x1
  cases x1
  by_cases hs1:steps≤(swL [] l).length
  ·obtain ⟨m1,e1,s1⟩:=z3z h2 (by lia) kvs steps
   have r1:=z5N h2 hd (by lia) hs1 e1
   exact ⟨_,_,_,_,_,_,r1,r2,⟨fun _=>by rw [x3];exact z2D h2 (by lia) kvs i1 x2 e1,fun z=>absurd rfl z,Or.inl rfl,Or.inl rfl,s1,s2⟩⟩
  ·have r1:=z0n h2 hd (by lia) (show (swL [] l).length < steps by lia) (same.trans aE) hv
   have e1:exM ((swL [] l).take (swL [] l).length) ⟨[],kvs,[]⟩=some mE:=by rw [List.take_length];exact same.trans aE
   exact ⟨_,_,_,_,_,_,r1,r2,⟨fun _=>by rw [x3];exact z2D h2 (by lia) kvs i2 x2 e1,fun z=>absurd rfl z,Or.inr ⟨v,rfl,ok⟩,Or.inl rfl,sE,s2⟩⟩
 ·have r2:=z0n h hd hl (show l.length < steps by lia) aE hv
  have r1:=z0n h2 hd (by lia) (show (swL [] l).length < steps by lia) (same.trans aE) hv
  exact ⟨_,_,_,_,_,_,r1,r2,⟨fun z=>absurd (congrArg List.length z) (by simp),fun _=>⟨rfl,rfl,by lia⟩,Or.inr ⟨v,rfl,ok⟩,Or.inr ⟨v,rfl,ok⟩,sE,sE⟩⟩
set_option maxHeartbeats 8000000
noncomputable def rowD (r:Row):PyData:=.tuple [.str r.op,qq r.arg,.int r.line]
noncomputable def z24 (rs:List Row):PyData:=.list (rs.map rowD)
theorem z4o {r:Row} (h:qm (.str r.op)∧qm r.arg∧qm (.int r.line)):(rowD r).showable=true∧(rowD r).hasDict=false∧(rowD r).depth≤2∧(rowD r).shown.length≤200:=by
 have e:rowD r=.tuple (([.str r.op,r.arg,.int r.line]:List V).map qq):=rfl
 obtain ⟨a,b,c,d⟩:=qK (xs:=[.str r.op,r.arg,.int r.line]) (fun x hx=>by
  simp only [kD,kq,or_false] at hx
  rcases hx with rfl | rfl | rfl
  ·exact h.1
  ·exact h.2.1
  ·exact h.2.2)
 obtain ⟨e1,f1⟩:=qH [.str r.op,r.arg,.int r.line]
 rw [e]
 refine ⟨by simp only [PyData.showable];exact b,by simp only [PyData.hasDict];exact e1,by simp only [PyData.depth,f1];lia,?_⟩
 simp only [PyData.shown]
 have l:=tupleText_len_le (PyData.shownAll (([.str r.op,r.arg,.int r.line]:List V).map qq))
 have l3:([.str r.op,r.arg,.int r.line]:List V).length=3:=rfl
 lia
theorem Jr:∀{rs:List Row},(∀r∈rs,qm (.str r.op)∧qm r.arg∧qm (.int r.line))→PyData.showableAll (rs.map rowD)=true∧PyData.hasDictAll (rs.map rowD)=false∧PyData.depthAll (rs.map rowD)≤2∧((PyData.shownAll (rs.map rowD)).map (fun t=>t.length)).sum≤200 * rs.length∧(PyData.shownAll (rs.map rowD)).length=rs.length
 | [],_=>⟨by simp only [List.map_nil,PyData.showableAll],by simp only [List.map_nil,PyData.hasDictAll],by simp only [List.map_nil,PyData.depthAll];lia,by simp only [List.map_nil,PyData.shownAll];decide,by simp only [List.map_nil,PyData.shownAll];rfl⟩
 | r :: rs,h=>by
  obtain ⟨a,b,c,d,e⟩:=Jr (rs:=rs) fun y hy=>h y (kQ _ hy)
  obtain ⟨f1,f2,f3,f4⟩:=z4o (h r (kP ..))
  refine ⟨by simp only [kS,PyData.showableAll,f1,a,Bool.and_self],by simp only [kS,PyData.hasDictAll,f2,b,Bool.or_self],by simp only [kS,PyData.depthAll];lia,?_,?_⟩
  ·simp only [kS,PyData.shownAll,List.sum_cons,kO]
   lia
  ·simp only [kS,PyData.shownAll,kO]
   lia
theorem z2I {K:ky} {H:Hp}:∀{as:List Addr} {rs:List Row},zr H as rs→(∀r∈rs,qm r.arg)→RdVs K H (as.map V.ref) (rs.map rowD)
 | _,_,.nil,_=>.nil
 | _,r :: _,.cons h t,hb=>.cons (.tup (SqT.of h) (.cons (.flat (x:=.str _) rfl) (.cons (.flat (hb r (kP ..)).1) (.cons (.flat (x:=.int _) rfl) .nil)))) (z2I t fun r hr=>hb r (kQ _ hr))
theorem ZN {K:ky} {H:Hp} {l:Addr} {as:List Addr} {rs:List Row} (hl:H l=some (.lst (as.map V.ref))) (hR:zr H as rs) (hb:∀r∈rs,qm (.str r.op)∧qm r.arg∧qm (.int r.line)) (hn:rs.length≤200) {Q:VK} {E:XK} (q:Q (.str (z24 rs).shown) H):Zl K [.ref l] H Q E:=by
 obtain ⟨a,b,c,d,e⟩:=Jr hb
 refine ⟨l,z24 rs,rfl,.lst (SqL.of hl) (z2I hR fun r hr=>(hb r hr).2.1),⟨by simp only [z24,PyData.showable];exact a,by simp only [z24,PyData.hasDict];exact b,by simp only [z24,PyData.depth];lia,?_⟩,q⟩
 simp only [z24,PyData.shown]
 have:=listText_len_le (PyData.shownAll (rs.map rowD))
 lia
theorem ops4:∀z∈(["push","swap","copy","tell","return"]:List Str),(qq (.str z)).showable=true∧(qq (.str z)).shown.length≤60:=by trivial
theorem Zh {z:Str} (h:z∈(["push","swap","copy","tell","return"]:List Str)):qm (.str z):=⟨rfl,(ops4 z h).1,(ops4 z h).2⟩
theorem z03:qm .non:=⟨rfl,by trivial,by trivial⟩
theorem z4N {d d':Int} {l:List Row} (h:Go d l d'):∀r∈l,qm (.str r.op)∧qm r.arg∧qm (.int r.line):=by
 induction h with
 | nil d=>intro r hr;cases hr
 | @push d d' l j ln h0 hj hl t ih=>
  intro r hr
  rcases kD.mp hr with z | z
  ·subst z;exact ⟨Zh (by simp),Z2 hj.2,qJ (i:=ln) (kh (by lia))⟩
  ·exact ih r z
 | @copy d d' l ln h hl t ih=>
  intro r hr
  rcases kD.mp hr with z | z
  ·subst z;exact ⟨Zh (by simp),qJ (by decide),qJ (i:=ln) (kh (by lia))⟩
  ·exact ih r z
 | @swap d d' l k ln h2 h9 hk hl t ih=>
  intro r hr
  rcases kD.mp hr with z | z
  ·subst z;exact ⟨Zh (by simp),qJ (kh (by lia)),qJ (i:=ln) (kh (by lia))⟩
  ·exact ih r z
 | @tell d d' l ln h hl t ih=>
  intro r hr
  rcases kD.mp hr with z | z
  ·subst z;exact ⟨Zh (by simp),z03,qJ (i:=ln) (kh (by lia))⟩
  ·exact ih r z
theorem z2L:qm (.str retR.op)∧qm retR.arg∧qm (.int retR.line):=⟨Zh (show retR.op∈_ by simp [retR]),z03,qJ (by decide)⟩
structure Dr (K:ky) (H:Hp) (a t r:Addr) (ns:List Int) (c:Nat) (rs:List Row):Prop where
 scr:Scr K H a (ns.map V.int)
 town:∃cells:List Int,cells.length=ns.length∧H t=some (.lst (qo c cells))
 rows:∃as,H r=some (.lst (as.map V.ref))∧zr H as rs
 ne:t≠r
section
variable {K:ky} {H:Hp} {a t r:Addr} {ns:List Int} {c:Nat} {rs:List Row}
theorem Dr.put (d:Dr K H a t r ns c rs) (hl:rs.length≤1000) {op:Str} {v:V} {Q:VK} {E:XK} (h:∀H',Dr K H' a t r ns c (rs++[⟨op,v,10+(rs.length:Int) / 2⟩])→Q .non H'):z1v [.ref r,.str op,v] H Q E:=by
 obtain ⟨as,h1,h2⟩:=d.rows
 obtain ⟨cells,h3,h4⟩:=d.town
 have e:(as.map V.ref).length=rs.length:=by rw [kj];exact h2.len
 refine ⟨r,op,v,_,rfl,h1,by lia,fun x hx=>?_⟩
 rw [e]
 have nx:∀b o,H b=some o→b≠x:=fun b o e=>zc e hx
 have keep:∀b o,H b=some o→b≠r→upd (upd H x (.tup [.str op,v,.int (10+(rs.length:Int) / 2)])) r (.lst (as.map V.ref++[.ref x])) b=some o:=fun b o e hb=>by rw [zd hb,zd (nx _ _ e)];exact e
 refine h _ ⟨d.scr.keep fun o u e=>keep _ _ e (fun z=>by rw [z,h1] at e;cases e),⟨cells,h3,keep _ _ h4 d.ne⟩,⟨as++[x],by rw [z6,kJ];rfl,?_⟩,d.ne⟩
 refine zr.append (h2.keep fun b xs e=>keep _ _ e (fun z=>by rw [z,h1] at e;cases e)) (.cons ?_ .nil)
 rw [zd (nx _ _ h1).symm]
 exact z6
theorem Dr.draw (d:Dr K H a t r ns c rs) (hn:ns.length≤1000) (hc:c≤1000) {many:Int} (h1:1≤many) (h2:many≤1000) {Q:VK} {E:XK} (h:∀(i:Int) H',0≤i→i < many→Dr K H' a t r ns (c+1) rs→Q (.int i) H'):Jn K [.ref a,.ref t,.int many] H Q E:=by
 obtain ⟨as,r1,r2⟩:=d.rows
 obtain ⟨cells,t1,t2⟩:=d.town
 refine ⟨a,t,ns,c,cells,many,rfl,d.scr,hn,t1,t2,by lia,h1,h2,fun i cells' H' i0 i1 c1 c2 kp=>?_⟩
 exact h i H' i0 i1 ⟨d.scr.keep1 kp t2,⟨cells',c1,c2⟩,⟨as,kp _ _ r1 d.ne.symm,r2.keep fun b xs e=>kp _ _ e (fun z=>by rw [z,t2] at e;cases e)⟩,d.ne⟩
end
theorem JM {d':Int} {l:List Row} (h:Go 0 l d'):∀r∈l++[retR],qm (.str r.op)∧qm r.arg∧qm (.int r.line):=fun r hr=>by
 rcases kR.mp hr with z | z
 ·exact z4N h r z
 ·rw [ko.mp z]
  exact z2L
theorem z3c {H:Hp} {l t:Addr} {as:List Addr} {c:Nat} {cells:List Int} (h:H l=some (.lst (as.map V.ref))) (g:H t=some (.lst (qo c cells))):l≠t:=fun z=>by
 rw [z,g] at h
 cases as with
 | nil=>cases h
 | cons a as=>injection h with h;injection h with h;injection h with h _;cases h
section
def z0U:Sp:=fun vs H Q _=>∃l as rs,vs=[.ref l]∧H l=some (.lst (as.map V.ref))∧zr H as rs∧Code rs∧∀H',Same H H'→Q (.bl true) H'
theorem sc34:zf ["thing"] ["thing"] (zb (top 34)):=fsM
theorem z3K (D:zk K mg "is_code" (top 34)) (FH:FN P w K mg base 1 "has_places" ["thing"] z6o) (FB:FN P w K mg base 8 "first_bad_place" ["rows"] (z6r K)):FN P w K mg base 9 "is_code" ["thing"] z0U:=by
 refine FN.o D sc34 fun f cdv A outer s H vs Q E hr h=>?_
 obtain ⟨l,as,rs,rfl,hl,hR,hC,q⟩:=h
 refine ⟨_,ze (zi (qN (zm FH (hr.mono (by decide)) rfl (z0 (pv 0) z8)) (qV (qg Q7 (zm FB hr rfl (z0 (pv 0) z8)) zR (zo _))))),?_⟩
 have hll:as.length=rs.length:=hR.len
 refine ⟨_,rfl,l,_,rfl,hl,by rw [kj,hll];exact hC.lo,by rw [kj,hll];exact hC.hi,_,rfl,iteT ?_⟩
 refine ⟨_,rfl,l,as,rs,rfl,SqL.of hl,hR,hC.ok,ku hC.hi (by decide),fun H' s' _=>?_,fun i r H' s' hi hf _=>?_⟩
 ·exact ⟨rfl,q H' s'⟩
 ·rw [hC.fit i r hi] at hf
  cases hf
def z7L (K:ky):Sp:=fun vs H Q _=>∃l as rs,vs=[.ref l]∧H l=some (.lst (as.map V.ref))∧zr H as rs∧Code rs∧(qU rs).isSome=true∧∀H',Same H H'→Q .non H'
theorem sc57:zf ["code"] ["code"] (zb (top 57)):=fsM
theorem z8u (D:zk K mg "why" (top 57)) (FC:FN P w K mg base 9 "check_code" ["thing"] z0k) (FS:FN P w K mg base 8 "searched" ["code"] (Zm K)):FN P w K mg base 10 "why" ["code"] (z7L K):=by
 refine FN.o D sc57 fun f cdv A outer s H vs Q E hr h=>?_
 obtain ⟨l,as,rs,rfl,hl,hR,hc,hfin,q⟩:=h
 obtain ⟨fin,hfin⟩:=Option.isSome_iff_exists.mp hfin
 refine ⟨_,z7 (zy (zm FC hr rfl (z0 (pv 0) z8))) (ze (zi (zD zU (zm FS (hr.mono (by decide)) rfl (z0 (pv 0) z8)) zh (fun _ _=>rfl)))),?_⟩
 refine ⟨_,rfl,l,as,rs,rfl,hl,hR,hc,fun H1 s1=>?_⟩
 refine ⟨_,rfl,l,as,rs,fin,rfl,SqL.of (s1 _ _ hl),hR.same s1,hc,hfin,fun t fl fvs H2 s2 ht hfl h1 h2 h3=>?_⟩
 exact ⟨t,_,_,_,rfl,rfl,SqT.of h1,zj (j:=1) rfl,q H2 (s1.trans s2)⟩
structure z0M (K:ky) (H:Hp) (t:Addr) (e sd:List V) (n:Nat):Prop where
 here:∃ea tl,H t=some (.tup [.ref ea,.ref tl,.int (n:Nat)])∧SqT K H ea e∧H tl=some (.lst sd)
theorem z0M.same {H H':Hp} {t:Addr} {e sd:List V} {n:Nat} (h:z0M K H t e sd n) (s:Same H H'):z0M K H' t e sd n:=by
 obtain ⟨ea,tl,h1,h2,h3⟩:=h
 exact ⟨ea,tl,s _ _ h1,qa s h2,s _ _ h3⟩
noncomputable def z4y (e sd:List V):PyData:=.tuple [.tuple (e.map qq),.list (sd.map qq)]
theorem z2B {e sd:List V} (h1:∀x∈e,qm x) (h2:∀x∈sd,qm x) (hl:e.length≤10) (hl2:sd.length≤1000):z1p (z4y e sd):=by
 obtain ⟨a,b,c,d⟩:=qK h1
 obtain ⟨a2,b2,c2,d2⟩:=qK h2
 obtain ⟨e1,f1⟩:=qH e
 obtain ⟨e2,f2⟩:=qH sd
 unfold z4y
 refine ⟨?_,?_,?_,?_⟩
 ·simp only [PyData.showable,PyData.showableAll,b,b2,Bool.and_self,Bool.true_and,Bool.and_true]
 ·simp only [PyData.hasDict,PyData.hasDictAll,e1,e2,Bool.or_self]
 ·simp only [PyData.depth,PyData.depthAll,f1,f2]
  lia
 ·have l1:=tupleText_len_le (PyData.shownAll (e.map qq))
  have l2:=listText_len_le (PyData.shownAll (sd.map qq))
  have l3:=tupleText_len_le [tupleText (PyData.shownAll (e.map qq)),listText (PyData.shownAll (sd.map qq))]
  simp only [PyData.shown,PyData.shownAll]
  simp only [kS,List.map_nil,List.sum_cons,List.sum_nil,kO,List.length_nil] at l3
  lia
theorem z3Q {e:List V} (h:e=[.str "on"]∨∃v,e=[.str "value",v]∧okV v=true):(∀x∈e,qm x)∧e.length≤10:=by
 rcases h with rfl | ⟨v,rfl,hv⟩
 ·refine ⟨fun x hx=>?_,by decide⟩
  rw [ko.mp hx]
  exact Qm (by simp)
 ·refine ⟨fun x hx=>?_,by simp⟩
  simp only [kD,kq,or_false] at hx
  rcases hx with rfl | rfl
  ·exact Qm (by simp)
  ·exact Z2 hv
theorem z2M {H:Hp} {p ea tl:Addr} {e sd:List V} (h1:H p=some (.tup [.ref ea,.ref tl])) (h2:SqT K H ea e) (h3:H tl=some (.lst sd)) (he:e=[.str "on"]∨∃v,e=[.str "value",v]∧okV v=true) (hs:okVs sd) (hl:sd.length≤1000) {Q:VK} {E:XK} (q:Q (.str (z4y e sd).shown) H):Zl K [.ref p] H Q E:=by
 obtain ⟨b1,b2⟩:=z3Q he
 have b3:∀x∈sd,qm x:=fun x hx=>Z2 (hs x hx)
 exact ⟨p,z4y e sd,rfl,.tup (SqT.of h1) (.cons (.tup h2 (jX (qK b1).1)) (.cons (.lst (SqL.of h3) (jX (qK b3).1)) .nil)),z2B b1 b3 b2 hl,q⟩
theorem z8J (st:List V) {g:Int} (h0:0≤g) (h1:g≤st.length):cutV st none (some g)=st.take g.toNat:=by
 unfold cutV
 have e1:HT.sIx st.length 0 none=0:=rfl
 have e2:HT.sIx st.length st.length (some g)=g.toNat:=by
  unfold HT.sIx
  first
   | (rw [kz (by lia)];lia)
   | (simp only [];split <;> lia)
   | (simp only [HT.sIx];lia)
 rw [e1,e2,List.drop_zero,Nat.sub_zero]
theorem z7o {xs ys:List V} (h:xs <+: ys):cutV ys none (some ((xs.length:Nat):Int))=xs:=by
 rw [z8J ys (by lia) (by have:=h.length_le;lia)]
 rw [kZ]
 exact (List.prefix_iff_eq_take.mp h).symm
def z2w (K:ky):Sp:=fun vs H Q _=>∃(t1 t2:Addr) (e1 sd1:List V) (n1:Nat) (e2 sd2:List V) (n2:Nat),vs=[.ref t1,.ref t2]∧z0M K H t1 e1 sd1 n1∧z0M K H t2 e2 sd2 n2∧z68 e1 sd1 n1 e2 sd2 n2∧∀H',Same H H'→Q (.bl true) H'
theorem z7Q:zf ["_law_one","_law_other","_law_few"] ["_law_one","_law_other"] (zb (top 119)):=fsM
theorem z5d (D:zk K mg "_law_agree" (top 119)) (G:Glo mg) (FS:FN P w K mg base 2 "_law_shown" ["_law_thing"] (Zl K)):FN P w K mg base 3 "_law_agree" ["_law_one","_law_other"] (z2w K):=by
 refine FN.o D z7Q fun f cdv A outer s H vs Q E hr h=>?_
 obtain ⟨t1,t2,e1,sd1,n1,e2,sd2,n2,rfl,R1,R2,ag,q⟩:=h
 have hu:(A.deeper (envOfC "_law_agree" (zb (top 119)) s.heap.objs.size f cdv)).units < cLine:=by have:=hr.un;lia
 refine ⟨_,z7 (zQ (zl (z89 hu) (zD zU (pv 1) zh (fun _ _=>rfl)) (zI (z0 zx z8)) (zo _))
   (z7 (zw (i:=2) z7Q.nd rfl (Or.inl rfl) (zq zu rfl G.len zK (z0 (zD zU (pv 1) zh (fun _ _=>rfl)) z8)))
   (ze (zi (qN (qg z88 (zq zu rfl G.len zK (z0 (zD zU (pv 0) zh (fun _ _=>rfl)) z8)) (pv 2) (zo _))
    (qV (qg qz (zm FS hr rfl (z0 (Z1 z2A (zD zU (pv 0) zh (fun _ _=>rfl)) Q4 (Q3 (pv 2))) z8)) (zm FS hr rfl (z0 (zD zU (pv 1) zh (fun _ _=>rfl)) z8)) (zo _))))))) zt)
  (ze (zi (qN (qg qz (zm FS hr rfl (z0 (Z1 z2z (pv 0) Q4 (Q3 zh)) z8)) (zm FS hr rfl (z0 (Z1 z2z (pv 1) Q4 (Q3 zh)) z8)) (zo _))
   (qV (qg z0s (zD zU (pv 0) zh (fun _ _=>rfl)) (zD zU (pv 1) zh (fun _ _=>rfl)) (zo _)))))),?_⟩
 obtain ⟨ea1,tl1,a1,a2,a3⟩:=R1
 obtain ⟨ea2,tl2,b1,b2,b3⟩:=R2
 obtain ⟨z,rest,ez,hz⟩:∃z rest,e2=.str z :: rest∧(decide (z=("on":Str))&&rest.isEmpty)=decide (e2=[.str "on"]):=by
  rcases ag.sh2 with e | ⟨v,e,hv⟩
  ·rw [e];exact ⟨_,_,rfl,by trivial⟩
  ·rw [e]
   refine ⟨_,_,rfl,?_⟩
   rw [show decide ((Str.ofString "value")=("on":Str))=false by trivial,kh (fun z=>by cases (congrArg List.length z))]
   rfl
 refine ⟨_,rfl,t2,_,_,_,rfl,rfl,SqT.of b1,zj (j:=0) rfl,by show 1≤sizeLine;decide,fun p hp=>?_⟩
 have s1:=zg hp (.tup [.str "on"])
 refine ⟨_,⟨ea2,p,z,"on",rest,rfl,rfl,by rw [←ez];exact qa s1 b2,SqT.of z6,hz.symm⟩,_,rfl,?_⟩
 have a1:=s1 _ _ a1
 have a2:=qa s1 a2
 have a3:=s1 _ _ a3
 have b1:=s1 _ _ b1
 have b2:=qa s1 b2
 have b3:=s1 _ _ b3
 generalize upd H p (.tup [.str "on"])=H1 at *
 by_cases hon:e2=[.str "on"]
 ·rw [ki hon]
  have pre:=ag.on hon
  have ple:=pre.length_le
  refine iteT ⟨_,rfl,t2,_,_,_,rfl,rfl,SqT.of b1,zj (j:=1) rfl,tl2,sd2,rfl,.inl (SqL.of b3),?_⟩
  refine ⟨_,rfl,t1,_,_,_,rfl,rfl,SqT.of a1,zj (j:=1) rfl,tl1,sd1,rfl,.inl (SqL.of a3),_,rfl,_,_,rfl,rfl,_,rfl,?_⟩
  rw [ki (show ((sd2.length:Nat):Int)≤((sd1.length:Nat):Int) by lia)]
  refine iteT ⟨_,rfl,t1,_,_,_,rfl,rfl,SqT.of a1,zj (j:=1) rfl,_,rfl,_,rfl,tl1,sd1,rfl,SqL.of a3,fun x hx=>?_⟩
  rw [z7o pre]
  have s2:=zg hx (.lst sd2)
  refine z2N z6 ag.sd2.1 (by have:=ag.sd2.2;lia) ?_
  refine ⟨_,rfl,t2,_,_,_,rfl,rfl,SqT.of (s2 _ _ b1),zj (j:=1) rfl,z2N (s2 _ _ b3) ag.sd2.1 (by have:=ag.sd2.2;lia) ?_⟩
  refine ⟨rfl,?_⟩
  rw [ki rfl]
  exact q _ (s1.trans s2)
 ·rw [kh hon]
  obtain ⟨e12,sd12,n12⟩:=ag.off hon
  subst e12 sd12
  refine iteF ?_
  have nw:¬(HT.sIx 3 0 none=0∧HT.sIx 3 3 (some ((2:Nat):Int))=3):=by
   rintro ⟨_,z⟩
   rw [HT.sIx_nat] at z
   revert z
   decide
  refine ⟨_,rfl,_,rfl,t1,_,rfl,SqT.of a1,nw,fun x hx=>?_⟩
  have s2:=zg hx (.tup [.ref ea1,.ref tl1])
  have cu:∀x y z:V,cutV [x,y,z] none (some 2)=[x,y]:=fun _ _ _=>rfl
  rw [cu]
  refine z2M z6 (qa s2 a2) (s2 _ _ a3) ag.sh1 ag.sd1.1 (by have:=ag.sd1.2;lia) ?_
  refine ⟨_,rfl,_,rfl,t2,_,rfl,SqT.of (s2 _ _ b1),nw,fun y hy=>?_⟩
  rw [cu]
  have s3:=zg hy (.tup [.ref ea2,.ref tl2])
  have s23:=s2.trans s3
  refine z2M z6 (qa s23 b2) (s23 _ _ b3) ag.sh2 ag.sd2.1 (by have:=ag.sd2.2;lia) ?_
  refine ⟨rfl,_,rfl,?_⟩
  rw [ki rfl]
  refine iteT ⟨_,rfl,t1,_,_,_,rfl,rfl,SqT.of (s23 _ _ a1),zj (j:=2) rfl,_,rfl,t2,_,_,_,rfl,rfl,SqT.of (s23 _ _ b1),zj (j:=2) rfl,_,_,rfl,rfl,?_⟩
  show Q (.bl (decide (((n1:Nat):Int)≤((n2:Nat):Int)))) _
  rw [ki (show ((n1:Nat):Int)≤((n2:Nat):Int) by lia)]
  exact q _ (s1.trans s23)
end
section
theorem Ju:∀j:Nat,j≤9→jm (.int (j:Nat))=true∧okV (.int (j:Nat))=true:=by
 intro j hj
 refine ⟨?_,?_⟩
 ·show (decide (V.int (j:Nat)=.non)||isB (.int (j:Nat))||zZ (.int (j:Nat)) (-1000000000) 1000000000||Qz (.int (j:Nat)))=true
  have:zZ (.int (j:Nat)) (-1000000000) 1000000000=true:=by
   show (decide (-1000000000≤((j:Nat):Int))&&decide (((j:Nat):Int)≤1000000000))=true
   rw [ki (by lia),ki (by lia)]
   rfl
  rw [this]
  simp
 ·show (!big (j:Nat))=true
  have:big ((j:Nat):Int)=false:=kh (by lia)
  rw [this]
  rfl
noncomputable def z9p:Row:=⟨"push",.non,1⟩
def z2k (K:ky):Sp:=fun vs H Q _=>∃(a t:Addr) (ns:List Int),vs=[.ref a,.ref t]∧Scr K H a (ns.map V.int)∧ns.length≤1000∧H t=some (.lst (qo 0 ns))∧
 ∀(l:Addr) (as:List Addr) (rs:List Row) (c:Nat) (cells:List Int) H',H' l=some (.lst (as.map V.ref))→zr H' as (rs++[retR])→Go 0 rs 1→rs.length≤149→Scr K H' a (ns.map V.int)→cells.length=ns.length→H' t=some (.lst (qo c cells))→c≤100→Q (.ref l) H'
noncomputable def N121:List Str:=["_law_script","_law_town_here","_law_rows","_law_k","_law_many","_law_j"]
theorem z0m:zf N121 ["_law_script","_law_town_here"] (zb (top 121)):=fsM
theorem z4U (D:zk K mg "_law_swaps" (top 121)) (G:Glo mg) (FD:FN P w K mg base 1 "_law_draw" ["_law_script","_law_town_here","_law_many"] (Jn K))
  (FP3:FNd P w K mg base 1 "_law_put" ["_law_rows","_law_op","_law_arg"] [] z1v) (FP2:FNd P w K mg base 1 "_law_put" ["_law_rows","_law_op","_law_arg"] [.non] z1v):FN P w K mg base 2 "_law_swaps" ["_law_script","_law_town_here"] (z2k K):=by
 refine FN.o D z0m fun f cdv A outer s H vs Q E hr h=>?_
 obtain ⟨a,t,ns,rfl,hS,hns,hT,q⟩:=h
 refine ⟨_,z7 (zw (i:=2) z0m.nd rfl (Or.inl rfl) (qv z8))
  (z7 (jw PassesOwn.never rfl (jd rfl G.range (z0 (zN qO zh (zm FD hr rfl (z0 (pv 0) (z0 (pv 1) (z0 zh z8))))) z8)) (zp (i:=3) z0m.nd rfl (Or.inl rfl))
   (z7 (zw (i:=4) z0m.nd rfl (Or.inl rfl) (zN qO zh (zm FD hr rfl (z0 (pv 0) (z0 (pv 1) (z0 zh z8))))))
   (z7 (jw PassesOwn.never rfl (jd rfl G.range (z0 (pv 4) z8)) (zp (i:=5) z0m.nd rfl (Or.inl rfl)) (ze (zy (Jx FP3 hr rfl (z0 (pv 2) (z0 zx (z0 (pv 5) z8)))))))
   (z7 (jw PassesOwn.never rfl (jd rfl G.range (z0 (zm FD hr rfl (z0 (pv 0) (z0 (pv 1) (z0 zh z8)))) z8)) (zp (i:=5) z0m.nd rfl (Or.inl rfl))
    (z7 (zy (Jx FP3 hr rfl (z0 (pv 2) (z0 zx (z0 (zN qO zh (zm FD hr rfl (z0 (pv 0) (z0 (pv 1) (z0 (zN QG (pv 4) zh) z8))))) z8)))))
    (ze (zQ (zl qz (zm FD hr rfl (z0 (pv 0) (z0 (pv 1) (z0 zh z8)))) zh (zo _))
     (z7 (zy (Jx FP3 hr rfl (z0 (pv 2) (z0 zx (z0 zh z8))))) (ze (zy (Jx FP2 hr rfl (z0 (pv 2) (z0 zx z8)))))) zt))))
   (ze (jw PassesOwn.never rfl (jd rfl G.range (z0 (pv 4) z8)) (zp (i:=5) z0m.nd rfl (Or.inl rfl)) (ze (zy (Jx FP2 hr rfl (z0 (pv 2) (z0 zx z8)))))))))))
  (ze (zi (zN z15 (pv 2) (qv (z0 (zI (z0 zx (z0 zR (z0 zh z8)))) (z0 (zI (z0 zx (z0 zR (z0 zh z8)))) z8))))))),?_⟩
 refine ⟨by show 0≤sizeLine;decide,fun r hr0=>?_⟩
 have s2:=zg hr0 (.lst [])
 have ntr:t≠r:=zc hT hr0
 have dr0:Dr K (upd H r (.lst [])) a t r ns 0 []:=⟨hS.keep fun o u e=>s2 _ _ e,⟨ns,rfl,s2 _ _ hT⟩,⟨[],z6,.nil⟩,ntr⟩
 clear hS hT s2
 refine ⟨_,rfl,_,rfl,Dr.draw dr0 hns (by lia) (by decide) (by decide) fun j H3 j0 j4 dr3=>?_⟩
 refine ⟨_,_,rfl,rfl,1+j,rfl,by lia,by lia,jz (lo:=0) (n:=(1+j).toNat) (fun i σ H4=>∃(v w x:Option V) (c:Nat) (rs:List Row),σ=[some (.ref a),some (.ref t),some (.ref r),v,w,x]∧Dr K H4 a t r ns c rs∧c≤1+20 * i∧rs.length≤40 * i∧Go 0 rs 0)
  ⟨_,_,_,1,[],rfl,dr3,by lia,by show 0≤_;lia,.nil 0⟩ ?_ ?_⟩
 ·rintro i σ H4 hi ⟨v,w',x',c,rs,rfl,dr4,hc,hl,hg⟩
  have hi4:i≤2:=by lia
  refine qS ?_
  refine ⟨_,rfl,_,rfl,Dr.draw dr4 hns (by lia) (by decide) (by decide) fun m H5 m0 m6 dr5=>?_⟩
  refine ⟨_,_,rfl,rfl,?_⟩
  obtain ⟨mm,em⟩:∃mm:Nat,2+m=((mm:Nat):Int):=⟨(2+m).toNat,by lia⟩
  have mm2:2≤mm:=by lia
  have mm8:mm≤8:=by lia
  show tSeq _ _ _ [some (.ref a),some (.ref t),some (.ref r),some (.int (0+(i:Int))),some (.int (2+m)),x'] H5
  rw [em]
  refine ⟨_,rfl,mm,rfl,by lia,by lia,jz (lo:=0) (n:=((mm:Nat):Int).toNat) (fun i1 σ H6=>∃(x:Option V) (rs1:List Row),σ=[some (.ref a),some (.ref t),some (.ref r),some (.int (0+(i:Int))),some (.int ((mm:Nat):Int)),x]∧Dr K H6 a t r ns (c+1) rs1∧rs1.length=rs.length+i1∧Go 0 rs1 (i1:Int))
   ⟨_,rs,rfl,dr5,rfl,hg⟩ ?_ ?_⟩
  ·rintro i1 σ H6 hi1 ⟨x,rs1,rfl,dr6,hl1,hg1⟩
   have hi1':i1 < 8:=by lia
   refine qS ?_
   refine ⟨_,rfl,_,rfl,Dr.put dr6 (by lia) fun H7 dr7=>⟨_,_,rfl,dr7,by rw [kl];show rs1.length+1=_;lia,hg1.app ?_⟩⟩
   rw [show (0:Int)+(i1:Int)=((i1:Nat):Int) by lia]
   exact .push (by lia) (Ju i1 (by lia)) (by lia) (.nil _)
  rintro σ H6 ⟨x,rs1,rfl,dr6,hl1,hg1⟩
  rw [kZ] at hl1 hg1
  refine ⟨_,rfl,_,rfl,Dr.draw dr6 hns (by lia) (by decide) (by decide) fun m2 H7 m20 m29 dr7=>?_⟩
  refine ⟨m2,rfl,by lia,by lia,jz (lo:=0) (n:=m2.toNat) (fun i2 σ H8=>∃(x:Option V) (c2:Nat) (rs2:List Row),σ=[some (.ref a),some (.ref t),some (.ref r),some (.int (0+(i:Int))),some (.int ((mm:Nat):Int)),x]∧Dr K H8 a t r ns c2 rs2∧c2≤c+2+2 * i2∧rs2.length≤rs1.length+3 * i2∧Go 0 rs2 (mm:Int))
   ⟨_,c+1+1,rs1,rfl,dr7,by lia,by lia,hg1⟩ ?_ ?_⟩
  ·rintro i2 σ H8 hi2 ⟨x,c2,rs2,rfl,dr8,hc2,hl2,hg2⟩
   have hi2':i2 < 8:=by lia
   refine qS ?_
   refine ⟨_,rfl,_,rfl,_,rfl,_,rfl,_,_,rfl,rfl,Dr.draw dr8 hns (by lia) (by lia) (by lia) fun k H9 k0 k8 dr9=>?_⟩
   refine ⟨_,_,rfl,rfl,Dr.put dr9 (by lia) fun H10 dr10=>?_⟩
   have ek:(2:Int)+k=((2+k).toNat:Nat):=by lia
   have hg3:Go 0 (rs2++[⟨"swap",.int (2+k),10+(rs2.length:Int) / 2⟩]) (mm:Int):=by
    refine hg2.app ?_
    rw [ek]
    exact .swap (by lia) (by lia) (by lia) (by lia) (.nil _)
   have hl3:(rs2++[⟨"swap",.int (2+k),10+(rs2.length:Int) / 2⟩]:List Row).length=rs2.length+1:=by simp
   generalize (rs2++[⟨"swap",.int (2+k),10+(rs2.length:Int) / 2⟩]:List Row)=rs3 at *
   refine ⟨_,rfl,_,rfl,Dr.draw dr10 hns (by lia) (by decide) (by decide) fun k2 H11 k20 k28 dr11=>?_⟩
   refine ⟨rfl,_,rfl,ite2 (fun _=>?_) (fun _=>?_)⟩
   ·refine ⟨_,rfl,Dr.put dr11 (by lia) fun H12 dr12=>?_⟩
    refine ⟨_,rfl,Dr.put dr12 (by rw [kl];show rs3.length+1≤_;lia) fun H13 dr13=>?_⟩
    refine ⟨_,_,_,rfl,dr13,by lia,by simp only [kl,kO,List.length_nil];lia,?_⟩
    rw [kW]
    refine hg3.app (.copy (by lia) (by lia) ?_)
    have:=Go.tell (d:=(mm:Int)+1) (l:=[]) (d':=(mm:Int)) (ln:=10+(((rs3++[⟨"copy",.int 1,10+(rs3.length:Int) / 2⟩]:List Row).length:Nat):Int) / 2) (by lia) (by simp only [kl,kO,List.length_nil];lia) (by rw [show (mm:Int)+1 - 1=mm by lia];exact .nil _)
    exact this
   ·exact ⟨_,_,rs3,rfl,dr11,by lia,by lia,hg3⟩
  rintro σ H8 ⟨x2,c2,rs2,rfl,dr8,hc2,hl2,hg2⟩
  have hm28:m2.toNat≤8:=by lia
  refine ⟨_,rfl,mm,rfl,by lia,by lia,jz (lo:=0) (n:=((mm:Nat):Int).toNat) (fun i3 σ H9=>∃(x:Option V) (rs3:List Row),σ=[some (.ref a),some (.ref t),some (.ref r),some (.int (0+(i:Int))),some (.int ((mm:Nat):Int)),x]∧Dr K H9 a t r ns c2 rs3∧rs3.length=rs2.length+i3∧Go 0 rs3 ((mm:Int) - (i3:Int)))
   ⟨_,rs2,rfl,dr8,rfl,by rw [show (mm:Int) - ((0:Nat):Int)=mm by lia];exact hg2⟩ ?_ ?_⟩
  ·rintro i3 σ H9 hi3 ⟨x,rs3,rfl,dr9,hl3,hg3⟩
   have hi3':i3 < mm:=by lia
   refine qS ?_
   refine ⟨_,rfl,Dr.put dr9 (by lia) fun H10 dr10=>⟨_,_,rfl,dr10,by rw [kl];show rs3.length+1=_;lia,hg3.app ?_⟩⟩
   rw [show (mm:Int) - ((i3+1:Nat):Int)=(mm:Int) - (i3:Int) - 1 by lia]
   exact .tell (by lia) (by lia) (.nil _)
  ·rintro σ H9 ⟨x,rs3,rfl,dr9,hl3,hg3⟩
   rw [kZ] at hl3 hg3
   rw [show (mm:Int) - (mm:Int)=0 by lia] at hg3
   exact ⟨_,_,_,c2,rs3,rfl,dr9,by lia,by lia,hg3⟩
 ·rintro σ H4 ⟨v,w',x',c,rs,rfl,dr4,hc,hl,hg⟩
  have hn4:(1+j).toNat≤3:=by lia
  obtain ⟨as,hr4',hR4⟩:=dr4.rows
  obtain ⟨cells,hcl,hT4⟩:=dr4.town
  refine ⟨_,rfl,by show 3≤sizeLine;decide,fun x hx=>⟨by show 3≤sizeLine;decide,fun y hy=>⟨by show 2≤sizeLine;decide,fun z hz=>?_⟩⟩⟩
  have s5:=zg hx (.tup [.str "push",.non,.int 1])
  have s6:=zg hy (.tup [.str "return",.non,.int 1])
  have s7:=zg hz (.lst [.ref x,.ref y])
  have hx7:=s7 _ _ (s6 _ _ (z6 (H:=H4) (a:=x) (o:=.tup [.str "push",.non,.int 1])))
  have hy7:=s7 _ _ (z6 (H:=upd H4 x (.tup [.str "push",.non,.int 1])) (a:=y) (o:=.tup [.str "return",.non,.int 1]))
  have s57:=(s5.trans s6).trans s7
  have hal:as.length=rs.length:=hR4.len
  refine ⟨r,z,_,_,rfl,rfl,s57 _ _ hr4',z6,by rw [kj,sizeLine_eq];show as.length+2≤_;lia,fun l hl'=>?_⟩
  have s8:=zg hl' (.lst (as.map V.ref++[.ref x,.ref y]))
  have s58:=s57.trans s8
  refine q l (as++[x]++[y]) (rs++[z9p]) c cells _ (by rw [z6];simp) ?_ ?_ (by rw [kl];show rs.length+1≤_;lia) (dr4.scr.keep fun o u e=>s58 _ _ e) hcl (s58 _ _ hT4) (by lia)
  ·exact zr.append (zr.append (hR4.same s58) (.cons (s8 _ _ hx7) .nil)) (.cons (s8 _ _ hy7) .nil)
  ·exact hg.app (.push (by lia) (by trivial) (by lia) (.nil _))
def z2j (K:ky):Sp:=fun vs H Q _=>∃(a t l o:Addr) (ns:List Int) (c:Nat) (cells:List Int) (as bs:List Addr) (rs:List Row),vs=[.ref a,.ref t,.ref l,.ref o]∧Scr K H a (ns.map V.int)∧ns.length≤1000∧cells.length=ns.length∧H t=some (.lst (qo c cells))∧c≤1000∧
 H l=some (.lst (as.map V.ref))∧zr H as (rs++[retR])∧H o=some (.lst (bs.map V.ref))∧zr H bs (swL [] rs++[retR])∧Go 0 rs 1∧rs.length≤149∧∀H',Q (.bl true) H'
noncomputable def N120:List Str:=["_law_script","_law_town_here","_law_code","_law_other","_law_k","_law_names","_law_steps"]
theorem z4l:zf N120 ["_law_script","_law_town_here","_law_code","_law_other"] (zb (top 120)):=fsM
structure z0a (K:ky) (H:Hp) (a t l o:Addr) (ns:List Int) (c:Nat) (as bs:List Addr) (rs:List Row):Prop where
 scr:Scr K H a (ns.map V.int)
 town:∃cells:List Int,cells.length=ns.length∧H t=some (.lst (qo c cells))
 l1:H l=some (.lst (as.map V.ref))
 r1:zr H as (rs++[retR])
 l2:H o=some (.lst (bs.map V.ref))
 r2:zr H bs (swL [] rs++[retR])
theorem z0a.keep1 {H H':Hp} {a t l o:Addr} {ns:List Int} {c c':Nat} {as bs:List Addr} {rs:List Row} (h:z0a K H a t l o ns c as bs rs) (k:jh H H' t) {cells:List Int} (e:cells.length=ns.length) (ht:H' t=some (.lst (qo c' cells))):z0a K H' a t l o ns c' as bs rs:=by
 obtain ⟨cs,e1,e2⟩:=h.town
 exact ⟨h.scr.keep1 k e2,⟨cells,e,ht⟩,k _ _ h.l1 (z3c h.l1 e2),h.r1.keep fun b xs e=>k b _ e (zA e e2 nofun),k _ _ h.l2 (z3c h.l2 e2),h.r2.keep fun b xs e=>k b _ e (zA e e2 nofun)⟩
theorem z0a.same {H H':Hp} {a t l o:Addr} {ns:List Int} {c:Nat} {as bs:List Addr} {rs:List Row} (h:z0a K H a t l o ns c as bs rs) (s:Same H H'):z0a K H' a t l o ns c as bs rs:=by
 obtain ⟨cs,e1,e2⟩:=h.town
 exact h.keep1 (fun b o e _=>s _ _ e) e1 (s _ _ e2)
theorem z4T (D:zk K mg "_law_tells" (top 120)) (G:Glo mg) (S:z4b P w K mg base) (FG:FN P w K mg base 4 "_law_given" ["_law_script","_law_town_here"] (z2t K)) (FR:FN P w K mg base 13 "run" ["code","names","steps"] (z7M K)) (FA:FN P w K mg base 3 "_law_agree" ["_law_one","_law_other"] (z2w K)):
  FN P w K mg base 14 "_law_tells" ["_law_script","_law_town_here","_law_code","_law_other"] (z2j K):=by
 refine FN.o D z4l fun f cdv A outer s H vs Q E hr h=>?_
 obtain ⟨a,t,l,o,ns,c,cells,as,bs,rs,rfl,hS,hns,hcl,hT,hc,hl1,hr1,hl2,hr2,hg,hlen,q⟩:=h
 have m1:=hr.mono (show 1≤13 by decide)
 have m2:=hr.mono (show 2≤13 by decide)
 have m3:=hr.mono (show 3≤13 by decide)
 have m4:=hr.mono (show 4≤13 by decide)
 refine ⟨_,z7 (jw PassesOwn.never rfl (jd rfl G.range (z0 zh z8)) (zp (i:=4) z4l.nd rfl (Or.inl rfl))
   (z7 (zw (i:=5) z4l.nd rfl (Or.inl rfl) (zm FG m4 rfl (z0 (pv 0) (z0 (pv 1) z8))))
   (z7 (zw (i:=6) z4l.nd rfl (Or.inl rfl) (zm S.pick m2 rfl (z0 (pv 0) (z0 (pv 1) (z0 (qv (z0 (zm S.draw m1 rfl (z0 (pv 0) (z0 (pv 1) (z0 zh z8)))) (z0 zh z8))) z8)))))
   (ze (zQ (jc (qy (zm FA m3 rfl (z0 (zm FR hr rfl (z0 (pv 3) (z0 (pv 5) (z0 (pv 6) z8)))) (z0 (zm FR hr rfl (z0 (pv 2) (z0 (pv 5) (z0 (pv 6) z8)))) z8))))) (ze (zi Qv)) zt)))))
  (ze (zi Qv)),?_⟩
 have T0:z0a K H a t l o ns c as bs rs:=⟨hS,⟨cells,hcl,hT⟩,hl1,hr1,hl2,hr2⟩
 have hg2:Go 0 (swL [] rs) 1:=z3A rs [] 0 1 AllS.nil hg (by rw [List.nil_append];lia)
 have hle:=z6j hg.okS (by lia)
 clear hS hcl hT hl1 hr1 hl2 hr2
 refine ⟨4,rfl,by decide,by decide,jz (lo:=0) (n:=4) (fun i σ H2=>∃(v w x:Option V) (c2:Nat),σ=[some (.ref a),some (.ref t),some (.ref l),some (.ref o),v,w,x]∧z0a K H2 a t l o ns c2 as bs rs∧c2≤c+8 * i)
  ⟨_,_,_,c,rfl,T0,by lia⟩ ?_ ?_⟩
 ·rintro i σ H2 hi ⟨v,w',x',c2,rfl,T2,hc2⟩
  refine qS ?_
  obtain ⟨cells2,e2,h2⟩:=T2.town
  refine ⟨_,rfl,_,rfl,a,t,ns,c2,cells2,rfl,T2.scr,hns,e2,h2,by lia,fun d kvs c3 cells3 H3 hd3 gk e3 h3 hc3 k3=>?_⟩
  have T3:=T2.keep1 k3 e3 h3
  refine ⟨_,rfl,_,rfl,_,rfl,_,rfl,a,t,ns,c3,cells3,40,rfl,T3.scr,hns,e3,h3,by lia,by decide,by decide,fun i4 cells4 H4 i40 i41 e4 h4 k4=>?_⟩
  have T4:=T3.keep1 k4 e4 h4
  have hd4:=k4 _ _ hd3 (zA hd3 h3 nofun)
  refine ⟨by show 2≤sizeLine;decide,fun p hp=>?_⟩
  have s5:=zg hp (.lst [.int i4,.int 150])
  have T5:=T4.same s5
  have hd5:=s5 _ _ hd4
  have h5:=s5 _ _ h4
  have npt:p≠t:=(zc h4 hp).symm
  refine ⟨a,t,p,ns,c3+1,cells4,_,rfl,T5.scr,hns,e4,h5,by lia,z6,npt,by show 1≤2;decide,by show 2≤1000;decide,fun v6 cells6 H6 hv6 e6 h6 k6=>?_⟩
  obtain ⟨steps,ev,hst⟩:∃steps:Nat,v6=.int ((steps:Nat):Int)∧steps≤150:=by
   simp only [kD,kq,or_false] at hv6
   rcases hv6 with e | e
   ·exact ⟨i4.toNat,by rw [e];congr 1;lia,by lia⟩
   ·exact ⟨150,e,ke _⟩
  subst ev
  have T6:=T5.keep1 k6 e6 h6
  have hd6:=k6 _ _ hd5 (zA hd5 h5 nofun)
  clear T0 T2 T3 T4 T5 hd3 hd4 hd5 k3 k4 k6 s5 hp h2 h3 h4 h5
  obtain ⟨e1,sd1,n1,e2',sd2,n2,ru1,ru2,ag⟩:=z1x hg (by decide) hlen kvs steps
  refine ⟨_,rfl,_,rfl,_,rfl,o,d,bs,_,kvs,steps,e1,sd1,n1,rfl,T6.l2,T6.r2,Zu hg2 (by lia),hd6,gk.names,by lia,ru1,fun t1 ea1 tl1 H7 s7 x1 x2 x3=>?_⟩
  have T7:=T6.same s7
  have R1:z0M K H7 t1 e1 sd1 n1:=⟨ea1,tl1,x1,x2,x3⟩
  refine ⟨_,rfl,_,rfl,_,rfl,l,d,as,_,kvs,steps,e2',sd2,n2,rfl,T7.l1,T7.r1,Zu hg (by lia),s7 _ _ hd6,gk.names,by lia,ru2,fun t2 ea2 tl2 H8 s8 y1 y2 y3=>?_⟩
  have R2:z0M K H8 t2 e2' sd2 n2:=⟨ea2,tl2,y1,y2,y3⟩
  refine ⟨t1,t2,e1,sd1,n1,e2',sd2,n2,rfl,R1.same s8,R2,ag,fun H9 s9=>?_⟩
  refine ⟨_,rfl,iteF ?_⟩
  exact ⟨_,_,_,c3+1+1,rfl,T7.same (s8.trans s9),by lia⟩
 ·rintro σ H2 ⟨v,w',x',c2,rfl,T2,hc2⟩
  exact q _
end
section
def z4j (K:ky):Sp:=fun vs H Q _=>∃(a:Addr) (ns:List Int),vs=[.ref a]∧Scr K H a (ns.map V.int)∧ns.length≤63∧∀H',Q (.bl true) H'
noncomputable def N122:List Str:=["_law_script","_law_town_here","_law_code","_law_given_code","_law_other"]
theorem z2G:zf N122 ["_law_script"] (zb (top 122)):=fsM
theorem z8F {f:Addr} {fd:FuncData} (D:Fun K "law" "law" (top 122) f fd) (G:Glo mg) (FT:FN P w K mg base 1 "_law_town" ["_law_script"] (z5A K)) (FC:FN P w K mg base 2 "_law_swaps" ["_law_script","_law_town_here"] (z2k K))
  (FW:FN P w K mg base 11 "swapped" ["code"] Jm) (FI:FN P w K mg base 9 "is_code" ["thing"] z0U) (FY:FN P w K mg base 10 "why" ["code"] (z7L K)) (FS:FN P w K mg base 2 "_law_shown" ["_law_thing"] (Zl K))
  (FL:FN P w K mg base 14 "_law_tells" ["_law_script","_law_town_here","_law_code","_law_other"] (z2j K)):FnOk P w K mg base CX0 15 f fd ["_law_script"] (z4j K):=by
 refine D.ok z2G (fun vs H Q E h=>by obtain ⟨a,ns,rfl,_⟩:=h;rfl) (fun cdv A outer s H vs Q E hr h=>?_)
 obtain ⟨a,ns,rfl,hS,hns,q⟩:=h
 have m1:=hr.mono (show 1≤14 by decide)
 have m2:=hr.mono (show 2≤14 by decide)
 have m9:=hr.mono (show 9≤14 by decide)
 have m10:=hr.mono (show 10≤14 by decide)
 have m11:=hr.mono (show 11≤14 by decide)
 refine ⟨_,z7 (zw (i:=1) z2G.nd rfl (Or.inl rfl) (zm FT m1 rfl (z0 (pv 0) z8)))
  (z7 (zw (i:=2) z2G.nd rfl (Or.inl rfl) (zm FC m2 rfl (z0 (pv 0) (z0 (pv 1) z8))))
  (z7 (zw (i:=3) z2G.nd rfl (Or.inl rfl) (qW qI rfl G.list jg (z0 (pv 2) z8)))
  (z7 (zw (i:=4) z2G.nd rfl (Or.inl rfl) (zm FW m11 rfl (z0 (pv 3) z8)))
  (z7 (zQ (PW.pt (Qt (zl z1B (zm FS m2 rfl (z0 (pv 3) z8)) (zm FS m2 rfl (z0 (pv 2) z8)) (zo _))
   (Qt (jc (qy (zm FI m9 rfl (z0 (pv 4) z8))))
   (jY (zl z34 (zq zu rfl G.len zK (z0 (pv 4) z8)) (zq zu rfl G.len zK (z0 (pv 2) z8)) (zo _)))))) (ze (zi Qv)) zt)
  (z7 (zQ (PW.pt (Qt (zl jL (zm FY m10 rfl (z0 (pv 4) z8)) zR (zo _))
   (jY (zl z1B (zm FS m2 rfl (z0 (zm FW m11 rfl (z0 (pv 2) z8)) z8)) (zm FS m2 rfl (z0 (pv 4) z8)) (zo _))))) (ze (zi Qv)) zt)
  (ze (zi (zm FL hr rfl (z0 (pv 0) (z0 (pv 1) (z0 (pv 2) (z0 (pv 4) z8)))))))))))),?_⟩
 refine ⟨_,rfl,a,ns,rfl,hS,by lia,fun t H1 s1 ht hT1=>?_⟩
 have hS1:Scr K H1 a (ns.map V.int):=hS.keep fun o u e=>s1 _ _ e
 refine ⟨_,rfl,_,rfl,a,t,ns,rfl,hS1,by lia,hT1,fun l as rs c cells H2 hl2 hR2 hg hlen hS2 hcl hT2 hc=>?_⟩
 clear hS hS1 hT1 ht s1
 have hle:=z6j hg.okS (by lia)
 have hg2:Go 0 (swL [] rs) 1:=z3A rs [] 0 1 AllS.nil hg (by rw [List.nil_append];lia)
 have ll:(rs++[retR]).length=rs.length+1:=by simp
 have ll2:(swL [] rs++[retR]).length=(swL [] rs).length+1:=by simp
 have bf:=JM hg
 have bf2:=JM hg2
 refine ⟨_,rfl,l,_,rfl,.inl (SqL.of hl2),fun g hg0=>?_⟩
 have s3:=zg hg0 (.lst (as.map V.ref))
 have hg3:upd H2 g (.lst (as.map V.ref)) g=some (.lst (as.map V.ref)):=z6
 have hl3:=s3 _ _ hl2
 have hR3:=hR2.same s3
 have hS3:Scr K (upd H2 g (.lst (as.map V.ref))) a (ns.map V.int):=hS2.keep fun o u e=>s3 _ _ e
 have hT3:=s3 _ _ hT2
 generalize upd H2 g (.lst (as.map V.ref))=H3 at *
 refine ⟨_,rfl,g,as,_,rfl,hg3,hR3,Zu hg hlen,Zb hg (by decide) hlen,by lia,z62 hg,fun o bs H4 s4 ho ho4 hO4=>?_⟩
 rw [z0Q] at hO4
 refine ⟨_,rfl,ZN (s4 _ _ hg3) (hR3.same s4) bf (by lia) ⟨_,rfl,ZN (s4 _ _ hl3) (hR3.same s4) bf (by lia) ⟨rfl,false,?_,iteF ?_⟩⟩⟩
 ·rw [ki rfl];rfl
 refine ⟨_,rfl,o,bs,_,rfl,ho4,hO4,Zu hg2 (by lia),fun H5 s5=>?_⟩
 refine ⟨_,rfl,iteF ?_⟩
 have hl5:=s5 _ _ (s4 _ _ hl3)
 have ho5:=s5 _ _ ho4
 have hR5:=(hR3.same s4).same s5
 have hO5:=hO4.same s5
 have lb:(bs.map V.ref).length=(swL [] rs).length+1:=by rw [kj,hO5.len,ll2]
 have la:(as.map V.ref).length=rs.length+1:=by rw [kj,hR5.len,ll]
 refine ⟨_,rfl,o,_,rfl,.inl (SqL.of ho5),_,rfl,l,_,rfl,.inl (SqL.of hl5),_,_,rfl,rfl,_,rfl,?_⟩
 rw [kh (show ¬(((as.map V.ref).length:Nat):Int) < (((bs.map V.ref).length:Nat):Int) by lia)]
 refine iteF ?_
 have s25:=(s4.trans s5)
 refine ⟨_,rfl,o,bs,_,rfl,ho5,hO5,Zu hg2 (by lia),Zb hg2 (by decide) (by lia),fun H6 s6=>?_⟩
 refine ⟨rfl,_,rfl,iteF ?_⟩
 refine ⟨_,rfl,l,as,_,rfl,s6 _ _ hl5,hR5.same s6,Zu hg hlen,Zb hg (by decide) hlen,by lia,z62 hg,fun o2 bs2 H7 s7 ho2 ho7 hO7=>?_⟩
 rw [z0Q] at hO7
 have s67:=s6.trans s7
 refine ZN ho7 hO7 bf2 (by lia) ⟨_,rfl,ZN (s67 _ _ ho5) (hO5.same s67) bf2 (by lia) ⟨rfl,false,?_,iteF ?_⟩⟩
 ·rw [ki rfl];rfl
 have s37:=s25.trans s67
 exact ⟨_,rfl,_,rfl,_,rfl,_,rfl,a,t,l,o,ns,c,cells,as,bs,rs,rfl,hS3.keep fun o u e=>s37 _ _ e,by lia,hcl,s37 _ _ hT3,by lia,s67 _ _ hl5,hR5.same s67,s67 _ _ ho5,hO5.same s67,hg,hlen,q⟩
end
section
structure Clss (K:ky) (mg:Str→Option Value) (CW CH:Addr):Prop where
 mW:mg "Walk"=some (.ref CW)
 mH:mg "Hold"=some (.ref CH)
 cW:Qp K CW
 cH:ja K CH
 iW:HasI K CW "Walk.__init__" (My.mW 0)
 iH:HasI K CH "Hold.__init__" (My.mH 0)
 m1:HasM K CW "come_to" "Walk.come_to" (My.mW 1)
 m2:HasM K CW "finish" "Walk.finish" (My.mW 2)
 m3:HasM K CW "take_fault" "Walk.take_fault" (My.mW 3)
 m4:HasM K CW "step" "Walk.step" (My.mW 4)
 m5:HasM K CW "place" "Walk.place" (My.mW 5)
 m9:HasM K CW "told" "Walk.told" (My.mW 9)
 m11:HasM K CW "end" "Walk.end" (My.mW 11)
 m12:HasM K CW "__len__" "Walk.__len__" (My.mW 12)
end
def LK (K:ky) (f:Addr) (x q:Str) (st:Stmt):Prop:=∃(oc:Value) (od an:Option Addr) (osl:Array (Option Value)) (kV doc pm cdv ct:Value),K.lookup f=some ⟨oc,od,.func (PySem.W.fnOf x q (qd st) (zH st) (zb st) .none kV doc pm an cdv ct),osl⟩∧PySem.W.codeIn K cdv q=true∧PySem.W.keepIn K (.ref f)=true
theorem lk_mk {K:ky} {f:Addr} {x q:Str} {st:Stmt} {oc:Value} {od an:Option Addr} {osl:Array (Option Value)} {kV doc pm cdv ct:Value} (l:K.lookup f=some ⟨oc,od,.func (PySem.W.fnOf x q (qd st) (zH st) (zb st) .none kV doc pm an cdv ct),osl⟩) (c:PySem.W.codeIn K cdv q=true) (k:PySem.W.keepIn K (.ref f)=true):LK K f x q st:=⟨_,_,_,_,_,_,_,_,_,l,c,k⟩
def HD (K:ky) (f:Addr) (x:Str) (n:Nat):Prop:=PySem.W.nsIn K mainGlobals x=some (some (.ref f))∧LK K f x x (top n)
theorem hdm {K:ky} {f:Addr} {x:Str} {n:Nat} {oc:Value} {od an:Option Addr} {osl:Array (Option Value)} {kV doc pm cdv ct:Value} (a:PySem.W.nsIn K mainGlobals x=some (some (.ref f))) (l:K.lookup f=some ⟨oc,od,.func (PySem.W.fnOf x x (qd (top n)) (zH (top n)) (zb (top n)) .none kV doc pm an cdv ct),osl⟩) (c:PySem.W.codeIn K cdv x=true) (k:PySem.W.keepIn K (.ref f)=true):HD K f x n:=⟨a,lk_mk l c k⟩
theorem z9w {K:ky} {h:Heap} {mg:Str→Option Value} {x:Str} {n:Nat} {f:Addr} (X:K.In h) (G:h.Ns mainGlobals mg) (l:HD K f x n):zk K mg x (top n):=by
 obtain ⟨a,_,_,_,_,_,_,_,_,_,l,c,k⟩:=l
 exact ⟨f,_,z1f l c k,km X G a⟩
theorem JK {K:ky} {C:Addr} {x q:Str} {st:Stmt} (l:∃f,PySem.W.findIn K (.ref C) x=some (some (.ref f))∧PySem.W.isFn K (.ref f)=true∧LK K f x q st):HasM K C x q st:=by
 obtain ⟨f,a,i,_,_,_,_,_,_,_,_,_,l,c,k⟩:=l
 exact ⟨f,_,z1f l c k,⟨a,i,k⟩⟩
theorem z8q {K:ky} {C:Addr} {q:Str} {st:Stmt} {f:Addr} (mk:PySem.W.makesIn K C=true) (a:PySem.W.findIn K (.ref C) "__init__"=some (some (.ref f))) (i:PySem.W.isFn K (.ref f)=true) (l:LK K f "__init__" q st) (kc:PySem.W.keepIn K (.ref C)=true):HasI K C q st:=by
 obtain ⟨_,_,_,_,_,_,_,_,_,l,c,k⟩:=l
 exact ⟨f,_,z1f l c k,⟨mk,a,i,kc⟩⟩
def CN (K:ky) (x:Str) (i:Int):Prop:=∃u,PySem.W.nsIn K mainGlobals x=some (some u)∧RelV (.int i) u
theorem cnm {K:ky} {x:Str} {i:Int} {u:Value} (a:PySem.W.nsIn K mainGlobals x=some (some u)) (r:RelV (.int i) u):CN K x i:=⟨u,a,r⟩
theorem QB {K:ky} {h:Heap} {mg:Str→Option Value} {x:Str} {i:Int} (X:K.In h) (G:h.Ns mainGlobals mg) (l:CN K x i):∃u,mg x=some u∧RelV (.int i) u:=l.elim fun u q=>⟨u,km X G q.1,q.2⟩
def KT (K:ky) (w:World) (x:Str) (tab:List (Str × V)):Prop:=∃a,PySem.W.nsIn K mainGlobals x=some (some (.ref a))∧KTab w.params K a tab
theorem ktm {K:ky} {w:World} {x:Str} {tab:List (Str × V)} {a:Addr} {e:Array DictEntry} {n:Nat} (h:PySem.W.nsIn K mainGlobals x=some (some (.ref a))) (l:K.lookup a=some ⟨.type "dict",none,.dict e n,#[]⟩) (k:PySem.W.KeysLit w.params e.toList) (m:(a == sysModules)=false)
  (p:Paired (fun (p:Str × V) (e:DictEntry)=>(∃t,e.key=.str p.1 t)∧RelV p.2 e.val) tab e.toList):KT K w x tab:=⟨a,h,e,n,l,k,m,p⟩
theorem ktg {K:ky} {w:World} {h:Heap} {mg:Str→Option Value} {x:Str} {tab:List (Str × V)} (X:K.In h) (G:h.Ns mainGlobals mg) (l:KT K w x tab):∃d,mg x=some (.ref d)∧KTab w.params K d tab:=l.elim fun d q=>⟨d,km X G q.1,q.2⟩
def KU (K:ky) (x:Str) (xs:List V):Prop:=∃a,PySem.W.nsIn K mainGlobals x=some (some (.ref a))∧KTup K a xs
def MD (K:ky) (C:Addr) (x q:Str) (st:Stmt):Prop:=∃f,PySem.W.findIn K (.ref C) x=some (some (.ref f))∧PySem.W.isFn K (.ref f)=true∧LK K f x q st
theorem mdm {K:ky} {C f:Addr} {x q:Str} {st:Stmt} (a:PySem.W.findIn K (.ref C) x=some (some (.ref f))) (i:PySem.W.isFn K (.ref f)=true) (l:LK K f x q st):MD K C x q st:=⟨f,a,i,l⟩
theorem z6L {K:ky} {a:Addr} {xs:List V} {o:Obj} {its:Array Value} {n:Nat} (l:K.lookup a=some o) (c:o.cls=.type "tuple") (d:o.data=.seq its n) (v:Vals xs its.toList) (z:xs.length≤1000):KTup K a xs:=
 ⟨o,its,n,l,c,d,by have h1:xs.length=its.toList.length:=v.length;have h2:its.toList.length=its.size:=Array.length_toList;exact z0V (by lia),v⟩
theorem kum {K:ky} {x:Str} {a:Addr} {xs:List V} {o:Obj} {its:Array Value} {n:Nat} (h:PySem.W.nsIn K mainGlobals x=some (some (.ref a))) (l:K.lookup a=some o) (c:o.cls=.type "tuple") (d:o.data=.seq its n) (v:Vals xs its.toList) (z:xs.length≤1000):KU K x xs:=⟨a,h,z6L l c d v z⟩
theorem kug {K:ky} {h:Heap} {mg:Str→Option Value} {x:Str} {xs:List V} (X:K.In h) (G:h.Ns mainGlobals mg) (l:KU K x xs):∃a,mg x=some (.ref a)∧KTup K a xs:=l.elim fun d q=>⟨d,km X G q.1,q.2⟩
theorem all_mk {l:PySem.W.OpenLaw} {w:World} {K:ky} {h:Heap} {mg:Str→Option Value} {fa CW CH T116 gfirst:Addr} {to116:Obj} {n116:Nat} (X:K.In h) (G:h.Ns mainGlobals mg) (hfa:mg "law"=some (.ref fa))
  {f14 f15 f16 f17 f18 f19 f20 f21 f22 f23 f24 f26 f27 f28 f29 f30 f31 f32 f33 f34 f35 f45 f46 f47 f48 f49 f50 f51 f52 f53 f54 f55 f56 f57 f60 f61 f62 f63 f64 f65 f68 f69 f70 f71 f72 f73 f74 f76 f77 f78 f86 f87 f88 f90 f91 f92 f93 f94 f95 f96 f97 f98 f99 f100 f101 f102 f103 f104 f105 f106 f108 f110 f112 f113 f114 f115 f117 f118 f119 f120 f121 f122 f116 fW0 fH0:Addr} {od116 an116:Option Addr} {sl116:Array (Option Value)} {oc116 kV116 dc116 pm116 cd116 ct116:Value}
  {tfirst:Addr} {ofirst:Obj} {ifirst:Array Value} {nfirst:Nat}
{ogfirst:Obj} {igfirst:Array Value} {ngfirst:Nat}
  (l14:HD K f14 "is_number" 14)
  (l15:HD K f15 "is_number_within" 15)
  (l16:HD K f16 "is_letters" 16)
  (l17:HD K f17 "is_name" 17)
  (l18:HD K f18 "is_kind" 18)
  (l19:HD K f19 "is_mark" 19)
  (l20:HD K f20 "is_value_within" 20)
  (l21:HD K f21 "is_pushed" 21)
  (l22:HD K f22 "is_copied" 22)
  (l23:HD K f23 "is_swapped_with" 23)
  (l24:HD K f24 "is_none" 24)
  (l26:HD K f26 "is_op" 26)
  (l27:HD K f27 "arg_sort" 27)
  (l28:HD K f28 "arg_fits" 28)
  (l29:HD K f29 "is_row" 29)
  (l30:HD K f30 "label_places" 30)
  (l31:HD K f31 "mark_fits" 31)
  (l32:HD K f32 "first_bad_place" 32)
  (l33:HD K f33 "has_places" 33)
  (l34:HD K f34 "is_code" 34)
  (l35:HD K f35 "check_code" 35)
  (l45:HD K f45 "uppermost" 45)
  (l46:HD K f46 "depth_asked" 46)
  (l47:HD K f47 "lacks_values" 47)
  (l48:HD K f48 "lacks_guard" 48)
  (l49:HD K f49 "takes_beneath" 49)
  (l50:HD K f50 "moves" 50)
  (l51:HD K f51 "words_lacking" 51)
  (l52:HD K f52 "guards_behind" 52)
  (l53:HD K f53 "next_states" 53)
  (l54:HD K f54 "state_words" 54)
  (l55:HD K f55 "searched" 55)
  (l56:HD K f56 "states" 56)
  (l57:HD K f57 "why" 57)
  (l60:HD K f60 "exchanged" 60)
  (l61:HD K f61 "next_swap" 61)
  (l62:HD K f62 "swaps_to" 62)
  (l63:HD K f63 "order_made" 63)
  (l64:HD K f64 "shortest" 64)
  (l65:HD K f65 "swapped" 65)
  (l68:HD K f68 "is_true" 68)
  (l69:HD K f69 "are_same" 69)
  (l70:HD K f70 "sum_of" 70)
  (l71:HD K f71 "difference_of" 71)
  (l72:HD K f72 "product_of" 72)
  (l73:HD K f73 "quotient_of" 73)
  (l74:HD K f74 "rest_of" 74)
  (l76:HD K f76 "made_of_two" 76)
  (l77:HD K f77 "made_of_one" 77)
  (l78:HD K f78 "kind_raised" 78)
  (l86:HD K f86 "is_names" 86)
  (l87:HD K f87 "check_names" 87)
  (l88:HD K f88 "check_steps" 88)
  (l90:HD K f90 "do_push" 90)
  (l91:HD K f91 "do_load" 91)
  (l92:HD K f92 "do_quick" 92)
  (l93:HD K f93 "do_store" 93)
  (l94:HD K f94 "do_clear" 94)
  (l95:HD K f95 "do_drop" 95)
  (l96:HD K f96 "do_copy" 96)
  (l97:HD K f97 "do_swap" 97)
  (l98:HD K f98 "pushed_or_fault" 98)
  (l99:HD K f99 "do_two" 99)
  (l100:HD K f100 "do_one" 100)
  (l101:HD K f101 "do_tell" 101)
  (l102:HD K f102 "do_jump" 102)
  (l103:HD K f103 "do_if" 103)
  (l104:HD K f104 "do_or" 104)
  (l105:HD K f105 "do_return" 105)
  (l106:HD K f106 "do_raise" 106)
  (l108:HD K f108 "do_row" 108)
  (l110:HD K f110 "run" 110)
  (l112:HD K f112 "_law_town" 112)
  (l113:HD K f113 "_law_draw" 113)
  (l114:HD K f114 "_law_pick" 114)
  (l115:HD K f115 "_law_const" 115)
  (l117:HD K f117 "_law_given" 117)
  (l118:HD K f118 "_law_shown" 118)
  (l119:HD K f119 "_law_agree" 119)
  (l120:HD K f120 "_law_tells" 120)
  (l121:HD K f121 "_law_swaps" 121)
  (l122:HD K f122 "law" 122)
  (a116:PySem.W.nsIn K mainGlobals "_law_put"=some (some (.ref f116)))
  (l116:K.lookup f116=some ⟨oc116,od116,.func (PySem.W.fnOf "_law_put" "_law_put" (qd (top 116)) (zH (top 116)) (zb (top 116)) (.ref T116) kV116 dc116 pm116 an116 cd116 ct116),sl116⟩)
  (c116:PySem.W.codeIn K cd116 "_law_put"=true)
  (k116:PySem.W.keepIn K (.ref f116)=true)
  (t116:K.lookup T116=some to116)
  (s116:to116.data=.seq #[Value.none] n116)
  (aCW:PySem.W.nsIn K mainGlobals "Walk"=some (some (.ref CW)))
  (pgCW:PySem.W.plainGet K CW Str.empty=true)
  (hdCW:PySem.W.hasDictIn K CW=true)
  (poCW:PySem.W.plainOver K CW=true)
  (saCW:PySem.W.findIn K (.ref CW) "__setattr__"=some (some (.builtin "object.__setattr__")))
  (mkCW:PySem.W.makesIn K CW=true)
  (kcCW:PySem.W.keepIn K (.ref CW)=true)
  (nCWrows:PySem.W.findIn K (.ref CW) "rows"=some none)
  (nCWgoals:PySem.W.findIn K (.ref CW) "goals"=some none)
  (nCWhold:PySem.W.findIn K (.ref CW) "hold"=some none)
  (nCWwards:PySem.W.findIn K (.ref CW) "wards"=some none)
  (nCWpassed:PySem.W.findIn K (.ref CW) "passed"=some none)
  (nCWending:PySem.W.findIn K (.ref CW) "ending"=some none)
  (nCWhere:PySem.W.findIn K (.ref CW) "here"=some none)
  (aCH:PySem.W.nsIn K mainGlobals "Hold"=some (some (.ref CH)))
  (pgCH:PySem.W.plainGet K CH Str.empty=true)
  (hdCH:PySem.W.hasDictIn K CH=true)
  (poCH:PySem.W.plainOver K CH=true)
  (saCH:PySem.W.findIn K (.ref CH) "__setattr__"=some (some (.builtin "object.__setattr__")))
  (mkCH:PySem.W.makesIn K CH=true)
  (kcCH:PySem.W.keepIn K (.ref CH)=true)
  (nCHheld:PySem.W.findIn K (.ref CH) "held"=some none)
  (nCHknown:PySem.W.findIn K (.ref CH) "known"=some none)
  (nCHsaid:PySem.W.findIn K (.ref CH) "said"=some none)
  (aW0:PySem.W.findIn K (.ref CW) "__init__"=some (some (.ref fW0)))
  (iW0:PySem.W.isFn K (.ref fW0)=true)
  (lW0:LK K fW0 "__init__" "Walk.__init__" (mW 0))
  (aH0:PySem.W.findIn K (.ref CH) "__init__"=some (some (.ref fH0)))
  (iH0:PySem.W.isFn K (.ref fH0)=true)
  (lH0:LK K fH0 "__init__" "Hold.__init__" (mH 0))
  (mm1:MD K CW "come_to" "Walk.come_to" (mW 1))
  (mm2:MD K CW "finish" "Walk.finish" (mW 2))
  (mm3:MD K CW "take_fault" "Walk.take_fault" (mW 3))
  (mm4:MD K CW "step" "Walk.step" (mW 4))
  (mm5:MD K CW "place" "Walk.place" (mW 5))
  (mm9:MD K CW "told" "Walk.told" (mW 9))
  (mm11:MD K CW "end" "Walk.end" (mW 11))
  (mm12:MD K CW "__len__" "Walk.__len__" (mW 12))
  (z_isinstance:PySem.W.nsIn K mainGlobals "isinstance"=some none)
  (z_int:PySem.W.nsIn K mainGlobals "int"=some none)
  (z_bool:PySem.W.nsIn K mainGlobals "bool"=some none)
  (z_str:PySem.W.nsIn K mainGlobals "str"=some none)
  (z_tuple:PySem.W.nsIn K mainGlobals "tuple"=some none)
  (z_list:PySem.W.nsIn K mainGlobals "list"=some none)
  (z_len:PySem.W.nsIn K mainGlobals "len"=some none)
  (z_range:PySem.W.nsIn K mainGlobals "range"=some none)
  (z_enumerate:PySem.W.nsIn K mainGlobals "enumerate"=some none)
  (z_all:PySem.W.nsIn K mainGlobals "all"=some none)
  (z_dict:PySem.W.nsIn K mainGlobals "dict"=some none)
  (z_max:PySem.W.nsIn K mainGlobals "max"=some none)
  (z_min:PySem.W.nsIn K mainGlobals "min"=some none)
  (z_abs:PySem.W.nsIn K mainGlobals "abs"=some none)
  (z_sorted:PySem.W.nsIn K mainGlobals "sorted"=some none)
  (z_zip:PySem.W.nsIn K mainGlobals "zip"=some none)
  (q_rows:CN K "MOST_ROWS" 150)
  (q_line:CN K "MOST_LINE" 9999)
  (q_mark:CN K "MOST_MARK" 99)
  (q_pushed:CN K "MOST_PUSHED" 1000000000)
  (q_name:CN K "LONGEST_NAME" 4)
  (q_kind:CN K "LONGEST_KIND" 8)
  (q_made:CN K "MOST_MADE" 1000000000000000000)
  (q_places:CN K "MOST_PLACES" 9)
  (q_names:CN K "MOST_NAMES" 8)
  (q_steps:CN K "MOST_STEPS" 100000)
  (ta_sorts:KT K w "ARG_SORTS" z2x)
  (ta_tests:KT K w "ARG_TESTS" [("value",.ref f21),("name",.ref f17),("copied",.ref f22),("swapped",.ref f23),("mark",.ref f19),("none",.ref f24)])
  (ta_takes:KT K w "TAKES" (JJ qB))
  (ta_pushes:KT K w "PUSHES" (JJ qE))
  (ta_gput:KT K w "GUARDS_PUT" (JJ qj))
  (ta_reck:KT K w "RECKONINGS" [("add",.ref f70),("sub",.ref f71),("mul",.ref f72),("div",.ref f73),("rest",.ref f74)])
  (ta_deeds:KT K w "DEEDS" (Zf ⟨f90,f91,f92,f93,f94,f95,f96,f97,f99,f100,f101,f102,f103,f104,f105,f106⟩))
  (ua_jumping:KU K "JUMPING" (jumping.map V.str))
  (ua_leaving:KU K "LEAVING" (leaving.map V.str))
  (ua_never:KU K "NEVER_ON" (qc.map V.str))
  (ua_faulting:KU K "FAULTING" (faulting.map V.str))
  (ua_next:KU K "NEXT" [.str "next",.non])
  (ua_go:KU K "GO" [.str "go",.non])
  (ua_unset:KU K "UNSET" [.str "fault",.str "Unset"])
  (ua_on:KU K "ON" [.str "on"])
  (ua_first:PySem.W.nsIn K mainGlobals "FIRST_STATE"=some (some (.ref tfirst)))
  (ul_first:K.lookup tfirst=some ofirst)
  (uc_first:ofirst.cls=.type "tuple")
  (ud_first:ofirst.data=.seq ifirst nfirst)
  (uv_first:Vals [.int 0,.ref gfirst] ifirst.toList)
  (ul_gfirst:K.lookup gfirst=some ogfirst)
  (uc_gfirst:ogfirst.cls=.type "tuple")
  (ud_gfirst:ogfirst.data=.seq igfirst ngfirst)
  (uv_gfirst:Vals [] igfirst.toList)
  :∃fd:FuncData,(∀(s:Shared) (v:Value),BindsTo s fd ⟨[v],[]⟩ [("_law_script",v)])∧∀base:Heap,K.In base→base.Ns mainGlobals mg→FnOk l.prog w K mg base CX0 15 fa fd ["_law_script"] (z4j K):=by
 have e:=hfa.symm.trans (km X G l122.1)
 cases e
 have D {f:Addr} {x:Str} {n:Nat} (l:HD K f x n):zk K mg x (top n):=z9w X G l
 have DP:z4c K mg "_law_put" (top 116):=⟨f116,T116,oc116,kV116,dc116,pm116,cd116,ct116,od116,an116,sl116,to116,n116,km X G a116,k116,l116,c116,t116,s116⟩
 have GG:Glo mg:=⟨PySem.W.mg_none_of X G z_isinstance,PySem.W.mg_none_of X G z_int,PySem.W.mg_none_of X G z_bool,PySem.W.mg_none_of X G z_str,PySem.W.mg_none_of X G z_tuple,PySem.W.mg_none_of X G z_list,PySem.W.mg_none_of X G z_len,PySem.W.mg_none_of X G z_range,PySem.W.mg_none_of X G z_enumerate,QB X G q_rows,QB X G q_line,QB X G q_mark,QB X G q_pushed,QB X G q_name,QB X G q_kind,PySem.W.mg_none_of X G z_all,PySem.W.mg_none_of X G z_dict,PySem.W.mg_none_of X G z_max,PySem.W.mg_none_of X G z_min,PySem.W.mg_none_of X G z_abs,QB X G q_made,QB X G q_names,QB X G q_steps⟩
 obtain ⟨dtests,mtests,ktests⟩:=ktg X G ta_tests
 obtain ⟨dreck,mreck,kreck⟩:=ktg X G ta_reck
 have GS:GloS mg:=⟨QB X G q_places,PySem.W.mg_none_of X G z_sorted,PySem.W.mg_none_of X G z_zip⟩
 have TT:Tabs w K mg:=⟨ktg X G ta_sorts,⟨dtests,f21,f17,f22,f23,f19,f24,mtests,ktests,km X G l21.1,km X G l17.1,km X G l22.1,km X G l23.1,km X G l19.1,km X G l24.1⟩⟩
 have T2:z5u w K mg:=⟨ktg X G ta_takes,ktg X G ta_pushes,ktg X G ta_gput,kug X G ua_jumping,kug X G ua_leaving,kug X G ua_never,kug X G ua_faulting,⟨tfirst,gfirst,km X G ua_first,z6L ul_first uc_first ud_first uv_first (by show 2≤1000;decide),z6L ul_gfirst uc_gfirst ud_gfirst uv_gfirst (by decide)⟩⟩
 have T3:z8M w K mg ⟨f90,f91,f92,f93,f94,f95,f96,f97,f99,f100,f101,f102,f103,f104,f105,f106⟩:=⟨ktg X G ta_deeds,km X G l90.1,km X G l91.1,km X G l92.1,km X G l93.1,km X G l94.1,km X G l101.1,km X G l103.1,km X G l104.1,km X G l105.1,km X G l99.1,km X G l100.1,km X G l102.1,km X G l95.1,km X G l96.1,km X G l97.1,km X G l106.1⟩
 have TR:TabR w K mg:=⟨dreck,f70,f71,f72,f73,f74,mreck,kreck,km X G l70.1,km X G l71.1,km X G l72.1,km X G l73.1,km X G l74.1⟩
 have CC:Cons K mg:=⟨kug X G ua_next,kug X G ua_go,kug X G ua_unset,kug X G ua_on⟩
 have CL:Clss K mg CW CH:=⟨km X G aCW,km X G aCH,⟨⟨pgCW,hdCW,poCW,saCW⟩,nCWrows,nCWgoals,nCWhold,nCWwards,nCWpassed,nCWending,nCWhere⟩,⟨⟨pgCH,hdCH,poCH,saCH⟩,nCHheld,nCHknown,nCHsaid⟩,z8q mkCW aW0 iW0 lW0 kcCW,z8q mkCH aH0 iH0 lH0 kcCH,JK mm1,JK mm2,JK mm3,JK mm4,JK mm5,JK mm9,JK mm11,JK mm12⟩
 obtain ⟨_,_,_,an,_,kV,dc,pm,cd,ct,lk,c,k⟩:=l122
 refine ⟨PySem.W.fnOf "law" "law" (qd (top 122)) (zH (top 122)) (zb (top 122)) .none kV dc pm an cd ct,fun s v=>.of_eq rfl,fun base _ _=>?_⟩
 have nF {x:Str} {ps:List Str} {sp:Sp} {k:Nat} (F:FN l.prog w K mg base k x ps sp):=F
 have nM {C:Addr} {x:Str} {ps:List Str} {sp:Sp} {k:Nat} (F:MN l.prog w K mg base k C x ps sp):=F
 have nI {C:Addr} {ps:List Str} {sp:Sp} {k:Nat} (F:IN l.prog w K mg base k C ps sp):=F
 have num:=nF (JT (D l14) GG)
 have zZ:=z3F (D l15) GG num
 have jy:=nF (z1W (D l16) GG)
 have name:=z78 (D l17) GG jy
 have kind:=z7c (D l18) GG jy
 have mark:=z79 (D l19) GG zZ
 have value:=z4S (D l20) GG zZ kind
 have pushed:=z3J (D l21) GG value
 have copied:=z3L (D l22) zZ
 have swapped:=z1V (D l23) zZ
 have none:=nF (z76 (D l24))
 have op:=nF (z9E (D l26) GG TT)
 have sort:=nF (z6Z (D l27) TT)
 have fits:=z7e (D l28) TT sort pushed name copied swapped mark none
 have row:=z8z (D l29) GG op fits zZ
 have labs:=z7b (D l30) GG row
 have mfits:=JS (D l31) sort
 have bad:=z8H (D l32) GG row labs mfits
 have has:=nF (z8G (D l33) GG)
 have check:=z5b (D l35) has bad
 have up:=up2 (nF (z9A (D l45)))
 have asked:=nF (z5c (D l46) T2)
 have lackV:=z54 (D l47) asked
 have Qy:=nF (z55 (D l48))
 have jQ:=z1X (D l49) GG asked
 have moves:=z50 (D l50) T2 lackV Qy
 have words:=z4R (D l51) GG lackV Qy jQ moves
 have gb:=nF (z9G (D l52))
 have next:=z77 (D l53) up moves gb
 have sw:=z9C (D l54) up words
 have searched:=z0E (D l55) GG T2 labs sw next
 have states:=z3G (D l56) check searched
 have tru:=nF (z6V (D l68) GG)
 have names:=z4Z (D l86) GG name value
 have chkn:=z7l (D l87) names
 have chks:=z7k (D l88) GG zZ
 have push:=nF (z73 (D l90) CL.cH CC)
 have load:=nF (z7a (D l91) CL.cH CC)
 have quick:=nF (z4Y (D l92) CL.cH CC)
 have store:=nF (z4V (D l93) CL.cH CC)
 have clear:=nF (z5a (D l94) CL.cH CC)
 have drop:=nF (z7g (D l95) CL.cH CC)
 have copy:=nF (z7j (D l96) CL.cH CC)
 have swap:=nF (z6Y (D l97) CL.cH CC)
 have tell:=nF (z6X (D l101) CL.cH CC)
 have ifs:=z9F (D l103) CL.cH CC tru
 have ors:=z9D (D l104) CL.cH CC tru
 have ret:=nF (z3I (D l105) CL.cH)
 have kr:=z56 (D l78) kind
 have rais:=z4X (D l106) CL.cH kr
 have same:=nF (z70 (D l69) GG)
 have sum:=nF (z8x (D l70))
 have diff:=nF (z7i (D l71))
 have prod:=nF (z74 (D l72))
 have quot:=nF (z72 (D l73))
 have rest:=nF (z71 (D l74))
 have Qx:=z52 (D l76) num same GG TR sum diff prod quot rest
 have z1K:=z53 (D l77) num tru
 have pof:=nF (z8B (D l98) CL.cH CC)
 have two:=z8v (D l99) CL.cH Qx pof
 have one:=z8C (D l100) CL.cH z1K pof
 have jump:=nF (z7d (C:=CH) (D l102) CC)
 have dorow:=z58 (D l108) T3 push load quick store clear tell ifs ors ret two one jump drop copy swap rais
 have ihold:=nI (z6O CL.iH CL.cH GG)
 have come:=nM (z8i CL.m1 CL.cW CL.cH GG)
 have fin:=nM (z9r (CH:=CH) CL.m2 CL.cW)
 have take:=z8g CL.m3 CL.cW CL.cH fin come
 have step:=z8h CL.m4 CL.cW fin take come dorow
 have place:=nM (z6I (CH:=CH) CL.m5 CL.cW)
 have told:=nM (z8f CL.m9 CL.cW CL.cH GG)
 have end_:=nM (z9s (CH:=CH) CL.m11 CL.cW)
 have len:=nM (z9q (CH:=CH) CL.m12 CL.cW GG)
 have iwalk:=z6N CL.iW CL.cW GG CC CL.mH states chkn labs ihold come
 have run:=z8y (D l110) CL.cW GG CL.mW iwalk chks place len step end_ told
 have town:=nF (z6W (D l112) GG)
 have draw:=nF (z7h (D l113) GG)
 have pick:=z75 (D l114) GG draw
 have const:=z59 (D l115) pick
 have put:=z8A (P:=l.prog) (w:=w) (base:=base) DP GG
 have S:z4b l.prog w K mg base:=⟨draw,pick,const⟩
 have given:=z57 (D l117) S
 have shown:=nF (z3H (D l118))
 have exch:=nF (z7f (D l60) GG)
 have nxt:=nF (z8E (D l61) GG)
 have to:=z9B (D l62) GG nxt exch
 have madeo:=z51 (D l63) GG GS exch
 have qp:=z4W (D l64) GG GS to madeo
 have swd:=z8w (D l65) states qp
 have isc:=z3K (D l34) has bad
 have whyn:=z8u (D l57) check searched
 have agree:=z5d (D l119) GG shown
 have tells:=z4T (D l120) GG S given run agree
 have swaps:=z4U (D l121) GG draw put.1 put.2
 exact z8F (z1f (st:=top 122) lk c k) GG town swaps swd isc whyn shown tells
theorem z7P {K:ky} {H:Hp} {a:Addr} {xs:List V} (hO:Only H) (h:SqL K H a xs):Scr K H a xs:=by
 rcases h with h | h
 ·rcases h with h | ⟨o,h⟩
  ·rcases hO a with z | ⟨o,ys,z⟩
   ·rw [z] at h;cases h
   ·rw [z] at h;cases h
  ·exact .inl ⟨o,h⟩
 ·exact .inr h
theorem walk {l:PySem.W.OpenLaw} {q:Program} {loose:List Str} {XP:(Str→Option Value)→Heap→Prop} {YP:World→Heap→Prop} {d:DefRec} {K:Params→ky} (hn:l.most=some 63) (hdf:d.params.defaults=[])
  (hY:∀(w:World) (h:Heap),YP w h→(K w.params).In h)
  (F:∀(w:World) (mg:Str→Option Value) (fa:Addr) (h:Heap),(K w.params).In h→h.Ns mainGlobals mg→mg d.name=some (.ref fa)→
   ∃fd:FuncData,(∀(s:Shared) (u:Value),BindsTo s fd ⟨[u],[]⟩ [("_law_script",u)])∧∀base:Heap,(K w.params).In base→base.Ns mainGlobals mg→FnOk l.prog w (K w.params) mg base CX0 15 fa fd ["_law_script"] (z4j (K w.params))):
  PySem.W.WalkO q loose XP YP l.row.toRowW d [] (fun f vs=>PySem.call f vs):=
 L2.z6c (n:=63) (k:=15) (x:="_law_script") (CX:=fun _=>CX0) (sp:=fun w=>z4j (K w.params)) hn (by decide) hdf ⟨rfl,by decide,by decide,rfl⟩ hY F (fun _ _ a ns hl hO hS=>⟨a,ns,rfl,z7P hO hS,hl,fun _=>rfl⟩) fun _ _ _ _ _ z=>z
end My
namespace PySem.W.Fast
def tw5105673956185107153:=Prop
def tw9296360433889664002:=Prop
def tw16968176118458789586:=Prop
def tw1454219785156648487:=Prop
def tw9497945907656264259:=Prop
def tw316514102143019080:=Prop
def tw1176975735165151067:=Prop
def tw15705684552126737148:=Prop
def tw9515242367644423802:=Prop
def tw13698048360955963301:=Prop
def tw10426125643436316091:=Prop
def tw906997338810173357:=Prop
def tw3528903376305711396:=Prop
def tw6397798872860733234:=Prop
def tw14442895186254868694:=Prop
def tw4944538096920542639:=Prop
def tw14869557710840242666:=Prop
def tw17643754061406199020:=Prop
def tw1532905827683784112:=Prop
def tw4584130408075211490:=Prop
def tw8348929279939143713:=Prop
def tw11187973929812520656:=Prop
def tw8609586542792094281:=Prop
def tw3285859953031059425:=Prop
def tw11889039917686322224:=Prop
def tw5240190935848835389:=Prop
def tw10667965978278278033:=Prop
def tw9601000219436670146:=Prop
def tw1479287613276173130:=Prop
def tw15452572443179084588:=Prop
def tw16449049683821496617:=Prop
def tw9156678896304099913:=Prop
def tw15886500619415505586:=Prop
def tw3520363519792060846:=Prop
def tw531412535426860449:=Prop
def tw6486810437610700802:=Prop
def tw6692858598210467278:=Prop
def tw12048056826642495367:=Prop
def tw16075136791760097191:=Prop
def tw1099786997935966427:=Prop
def tw4419873286371483742:=Prop
def tw6494943896840636653:=Prop
def tw4135897612330176133:=Prop
def tw5671954072354940063:=Prop
def tw9986627191518016938:=Prop
def tw5856596252816178523:=Prop
def tw13436231055378572716:=Prop
def tw11930311979851757478:=Prop
def tw7503064181124827805:=Prop
def tw15221209806709932071:=Prop
def tw7398817070849623441:=Prop
def tw10209164474934016114:=Prop
def tw8393786181099783575:=Prop
def tw9774394379856643515:=Prop
def tw11047245738394521532:=Prop
def tw2257529940240947247:=Prop
def tw5891177449180782854:=Prop
def tw15402286563333779435:=Prop
def tw12533650973541477374:=Prop
def tw9840342860782594374:=Prop
def tw3101917741504857134:=Prop
def tw14048895322960730393:=Prop
def tw586414817643026165:=Prop
def tw18013738613805917565:=Prop
def tw1825691751249298209:=Prop
def tw17704188385166749297:=Prop
def tw7523194637212750777:=Prop
def tw4361700775904427359:=Prop
def tw7498633149979677338:=Prop
def tw3092117133297227249:=Prop
def tw15335523830956845186:=Prop
def tw10299302589577801163:=Prop
def tw3470010718395615242:=Prop
def tw8135990882902831502:=Prop
def tw11902711398340702967:=Prop
def tw13840814423707232359:=Prop
def tw2354314689462661055:=Prop
def tw11483614926036402024:=Prop
def tw15515405784836723652:=Prop
def tw9563574807059059695:=Prop
def tw15348117752812372481:=Prop
def tw17624731456758155189:=Prop
def tw11519117686961666697:=Prop
def tw16231819489803491086:=Prop
def tw2947586027576077979:=Prop
def tw16932301668260661676:=Prop
def tw11630328935867623959:=Prop
def tw5587826856885255690:=Prop
def tw8879981774537637704:=Prop
def tw1349388230604553621:=Prop
def tw6822529714786804032:=Prop
def tw16915470645016011554:=Prop
def tw6734199854066611161:=Prop
def tw16472409268878238316:=Prop
def tw10700183255674453818:=Prop
def tw8164005668110941744:=Prop
def tw4961949625528378942:=Prop
def tw4770949888891906500:=Prop
def tw8981913638643619018:=Prop
def tw1462193419119380569:=Prop
def tw742405457713269000:=Prop
def tw5681066748535004433:=Prop
def tw529536973988259948:=Prop
def tw5958337225494893492:=Prop
def tw17541053060092493725:=Prop
def tw1191315250883676292:=Prop
def tw1906743188756502811:=Prop
def tw7875376050956498882:=Prop
def tw8426798971799828003:=Prop
def tw10335527622381539264:=Prop
def tw9416359806053724237:=Prop
def tw15861331538122591068:=Prop
def tw14501001857826371202:=Prop
def tw17925384258215065573:=Prop
def tw7328447075739424539:=Prop
def tw4216363875500904389:=Prop
def tw9435018134839604537:=Prop
def tw16539199913488330184:=Prop
def tw13517250619966689955:=Prop
def tw853867870972434600:=Prop
def tw12549480798472879603:=Prop
def tw16131593051203169754:=Prop
def tw8933567498414919238:=Prop
def tw7492102371377302679:=Prop
def tw8730455100892084961:=Prop
def tw5623994078177797194:=Prop
def tw12390559651112219368:=Prop
def tw13113311128994013787:=Prop
def tw3761122049097509064:=Prop
def tw8798402163664198995:=Prop
def tw8470894229461020840:=Prop
def tw5312734613080425828:=Prop
def tw10155365746132046468:=Prop
def tw2518989090492156107:=Prop
def tw6548945272714408661:=Prop
def tw16364373167927100580:=Prop
def tw17849293660312457548:=Prop
def tw35568349831873098:=Prop
def tw14613296582639449008:=Prop
def tw12018387782679925087:=Prop
def tw12043681936756833108:=Prop
def tw11779420592341035236:=Prop
def tw16745343075639119971:=Prop
def tw16749348522385944071:=Prop
def tw16792704761308240420:=Prop
def tw15365484819746726251:=Prop
def tw10561106145012299093:=Prop
def tw2208741240797131588:=Prop
def tw18395511878220121235:=Prop
def tw2283480497557504744:=Prop
def tw69414778264802052:=Prop
def tw416062468532545916:=Prop
def tw541143106132251753:=Prop
def tw7175924686734873740:=Prop
def tw14285927966381778045:=Prop
def tw16550838102048051623:=Prop
def tw7537285074954141530:=Prop
def tw7215932318001415403:=Prop
def tw2178898036821326954:=Prop
def tw6285040191614719466:=Prop
def tw13049474527870934581:=Prop
def tw4571146918403064550:=Prop
def tw16950569574821323974:=Prop
def tw3172541193896328996:=Prop
def tw4843473975253519250:=Prop
def tw16172578528114110199:=Prop
def tw4598012029387006661:=Prop
def tw16459021049253542911:=Prop
def tw3307598998989760257:=Prop
def tw11309342325655673037:=Prop
def tw1541540961381408409:=Prop
def tw15248526436251307398:=Prop
def tw8789256864460932259:=Prop
def tw15622835117965313283:=Prop
def tw12673549619886724666:=Prop
def tw15705199264805783303:=Prop
def tw11849525312028181438:=Prop
def tw10785849952161257653:=Prop
def tw8018341471551460276:=Prop
def tw15943592676296772274:=Prop
def tw9488181201213887302:=Prop
def tw16900098544317168846:=Prop
def tw8289603468440022304:=Prop
def tw3699721879717830906:=Prop
def tw7317576523658780031:=Prop
def tw1191518686258777599:=Prop
def tw10635065575864489283:=Prop
def tw8621301723031713458:=Prop
def tw14198735713732576978:=Prop
def tw17312996333117680517:=Prop
def tw4248988804066548162:=Prop
def tw3414106826494052011:=Prop
def tw12068798485007620914:=Prop
def tw7363425622247834253:=Prop
def tw143287661451841328:=Prop
def tw17305903175009340426:=Prop
def tw17287205074728517176:=Prop
def tw12941643214049860704:=Prop
def tw13056512690104125533:=Prop
def tw8934421753687110507:=Prop
def tw4537827082999213091:=Prop
def tw3801760983836956406:=Prop
def tw3638187344944282256:=Prop
def tw15655605073228999271:=Prop
def tw3094701115853657799:=Prop
def tw1944925098504758534:=Prop
def tw13197444509695450237:=Prop
def tw1385777081429181588:=Prop
def tw16279701975793424917:=Prop
def tw4179031660912777645:=Prop
def tw16270782298928823894:=Prop
def tw9597476570122768466:=Prop
def tw6292166794754334899:=Prop
def tw371976131940695897:=Prop
def tw305048472116853797:=Prop
def tw3857615796733700780:=Prop
def tw15508019666092448443:=Prop
def tw804092199982636349:=Prop
def tw2944391684731814369:=Prop
def tw14326666937008165477:=Prop
def tw13829591483307370896:=Prop
def tw2133357390318303931:=Prop
def tw16131418979919672264:=Prop
def tw17969941481158815411:=Prop
def tw8915963884622528690:=Prop
def tw8185526577758514290:=Prop
def tw16469568281967520401:=Prop
def tw15213048550514571353:=Prop
def tw2133271169735087666:=Prop
def tw2451202640524662777:=Prop
def tw1165732905965986049:=Prop
def tw17427895641331663283:=Prop
def tw6459200953577825518:=Prop
def tw4033379813872489195:=Prop
def tw3166399620581321579:=Prop
def tw14712817762504950641:=Prop
def tw8903238766108814736:=Prop
def tw5799554998426481285:=Prop
def tw8181798732573668865:=Prop
def tw539595736760451978:=Prop
def tw16149030986926176842:=Prop
def tw5755323398960844423:=Prop
def tw11622863634709415212:=Prop
def tw11636702290074901078:=Prop
def tw7610715734942229976:=Prop
def tw9490788887817741740:=Prop
def tw1672326540721132644:=Prop
def tw8704305404121857298:=Prop
def tw17186741509365979835:=Prop
def tw13478877428745155630:=Prop
def tw7247118927824095897:=Prop
def tw1820406046763328738:=Prop
def tw8436589768386056944:=Prop
def tw18192907663531859256:=Prop
def tw17483246593336843265:=Prop
def tw10137764753370060610:=Prop
def tw3103751414666246812:=Prop
def tw6200747210346194187:=Prop
def tw17682402426280554898:=Prop
def tw6708892414054319099:=Prop
def tw6807009207803952845:=Prop
def tw13319170342346483122:=Prop
def tw15382044423783582273:=Prop
def tw1147522009701800784:=Prop
def tw12565002596728077416:=Prop
def tw17721039672839981703:=Prop
def tw182668025278835697:=Prop
def tw9192171586001469603:=Prop
def tw9359623039629485964:=Prop
def tw14846608996346228861:=Prop
def tw9455475090630465045:=Prop
def tw2766794811542550618:=Prop
def tw17004574920194074796:=Prop
def tw14023712959475348811:=Prop
def tw7825248364748044718:=Prop
def tw358491328311820773:=Prop
def tw1880258362356491002:=Prop
def tw4402504706719581215:=Prop
def tw17845374550828520631:=Prop
def tw11392713097197983755:=Prop
def tw16268753175028127129:=Prop
def tw14439765378166140033:=Prop
def tw8454840944936950519:=Prop
def tw18221076124747093969:=Prop
def tw10752687858943698738:=Prop
def tw9629638568524466495:=Prop
def tw16629561534657121264:=Prop
def tw17601101962401091345:=Prop
def tw13884827974113296321:=Prop
def tw14864845329073380503:=Prop
def tw7586693836618795562:=Prop
def tw4074981978428682757:=Prop
def tw12059592832596718669:=Prop
def tw1678685284944356640:=Prop
def tw7249538410202319208:=Prop
def tw13624067223694474022:=Prop
def tw16118103595353321548:=Prop
def tw14395535763308203431:=Prop
def tw8556428379479075427:=Prop
def tw11712190458185945011:=Prop
def tw10746989603658154836:=Prop
def tw7394473655412076685:=Prop
def tw11905978938385298303:=Prop
def tw12976177241038019767:=Prop
def tw10762484250532422250:=Prop
def tw13231743877010270464:=Prop
def tw14566440943485919492:=Prop
def tw14374603453287560736:=Prop
def tw15734334760007649912:=Prop
def tw15069716523494295500:=Prop
def tw9183887234732007851:=Prop
def tw14790834132378566595:=Prop
def tw17798109276220946204:=Prop
def tw5089109622011424599:=Prop
def tw8839083969933755074:=Prop
def tw13148303815899264127:=Prop
def tw5047655472420816975:=Prop
def tw8369868683130302868:=Prop
def tw802917404587063742:=Prop
def tw10845176269288740530:=Prop
def tw11764051201032110199:=Prop
def tw17546005709695080877:=Prop
def tw5488966160659634681:=Prop
def tw2294854397974045510:=Prop
def tw12221415409051222339:=Prop
def tw13260146092877858203:=Prop
def tw9685044298169568939:=Prop
def tw264859973967348148:=Prop
def tw15845117809764550140:=Prop
def tw13101539525013915119:=Prop
def tw6664951462986138201:=Prop
def tw15314323031021625729:=Prop
def tw12532165626772418067:=Prop
def tw12372324319789152570:=Prop
def tw6638926791290424541:=Prop
def tw11769617611247221923:=Prop
def tw15679247252792206210:=Prop
def tw454280894128670149:=Prop
def tw8160871880118814707:=Prop
def tw6951939212644042833:=Prop
def tw7805864855692585105:=Prop
def tw17100184641858439841:=Prop
def tw15632388027458123374:=Prop
def tw7799292279061216081:=Prop
def tw14827384380277173613:=Prop
def tw15431134087688302020:=Prop
def tw9897558803702562313:=Prop
def tw723766284050672111:=Prop
def tw12897510573589207426:=Prop
def tw8008005557923197168:=Prop
def tw9508736203920968164:=Prop
def tw10543178825980762907:=Prop
def tw5759927347364260171:=Prop
def tw7900839787485558254:=Prop
def tw10884089432341657690:=Prop
def tw6585068141940680455:=Prop
def tw16878425626841360969:=Prop
def tw11990459337992974956:=Prop
def tw10465991233853893105:=Prop
def tw899467453790264098:=Prop
def tw6582134788679801411:=Prop
def tw8085317222854131807:=Prop
def tw4952506757814975653:=Prop
def tw17548501875881557423:=Prop
def tw5036445103931068615:=Prop
def tw49257221699923509:=Prop
def tw10780761586765376359:=Prop
def tw11732214188671553305:=Prop
def tw603919011924581760:=Prop
def tw13792483299354683862:=Prop
def tw4954584648838934644:=Prop
def tw3482820431698744051:=Prop
def tw6511239469406747073:=Prop
def tw1313047135445303594:=Prop
def tw4198713400997701141:=Prop
def tw6737687440995333003:=Prop
def tw11973505968982382900:=Prop
def tw11289143093466461953:=Prop
def tw2478928736998500339:=Prop
def tw7963254771138671430:=Prop
def tw16919330064296535691:=Prop
def tw8086373703447589959:=Prop
def tw13989995598129119793:=Prop
def tw9516800180062724845:=Prop
def tw1712973634487312807:=Prop
def tw1948689806639624469:=Prop
def tw2852278927748849453:=Prop
def tw425938344300624212:=Prop
def tw5427499738942290107:=Prop
def tw18189533506524829052:=Prop
def tw10390157646234782899:=Prop
def tw10042499479572932358:=Prop
def tw1138913362466708187:=Prop
def tw6731276024794131016:=Prop
def tw4626940704210403192:=Prop
def tw13305670439411429421:=Prop
def tw14015890951069844909:=Prop
def tw178168908405807006:=Prop
def tw7254989234349611870:=Prop
def tw17996964024917085871:=Prop
def tw15726315211890062517:=Prop
def tw6396003848318028651:=Prop
def tw3992908553847606798:=Prop
def tw7042659310547366237:=Prop
def tw10015853644003576960:=Prop
def tw8983045337250349904:=Prop
def tw13078823862939028812:=Prop
def tw17857563459279650048:=Prop
def tw9484893572878908112:=Prop
def tw17764094193945201922:=Prop
def tw8864380892348041232:=Prop
def tw13830249020947656091:=Prop
def tw1322031339247656150:=Prop
def tw7388713464098733815:=Prop
def tw7499281151589028774:=Prop
def tw12380031433413146341:=Prop
def tw1201823643857629683:=Prop
def tw13673065589402620214:=Prop
def tw15740581520725410121:=Prop
def tw4268201051430804902:=Prop
def tw10816505815932434291:=Prop
def tw14858129598448742980:=Prop
def tw13218621648322568166:=Prop
def tw14495299557687959983:=Prop
def tw2644793928968540899:=Prop
def tw5353813085845620550:=Prop
def tw6192104577313164617:=Prop
def tw380267787363406661:=Prop
def tw12184380411685104690:=Prop
def tw4475145619620083286:=Prop
def tw9001960471440542311:=Prop
def tw6108208118871286908:=Prop
def tw3507429394446682220:=Prop
def tw9308127886482624579:=Prop
def tw8532528403779714478:=Prop
def tw16293574821069383546:=Prop
def tw10693841506766600124:=Prop
def tw15724745641170818534:=Prop
def tw3555141088238359772:=Prop
def tw13481268755573549168:=Prop
def tw5485572742587201778:=Prop
def tw11081772624950168284:=Prop
def tw6203606158221864914:=Prop
def tw17093224777342109595:=Prop
def tw14255533807856875452:=Prop
def tw13419329186978087958:=Prop
def tw8237626310708396552:=Prop
def tw4211700434839312001:=Prop
def tw12004313012329915033:=Prop
def tw9585978970863474492:=Prop
def tw848858151624926571:=Prop
def tw10987736105736012968:=Prop
def tw5272677748111154927:=Prop
def tw4674102799890499726:=Prop
def tw5286587840749011222:=Prop
def tw17974404532321089622:=Prop
def tw6183355688225794848:=Prop
def tw9218752888244210615:=Prop
def tw6415066574636824545:=Prop
def tw5552461122284547459:=Prop
def tw6315216371427503177:=Prop
def tw5260856337621036202:=Prop
def tw17545862747986772839:=Prop
def tw6390373612929051886:=Prop
def tw7877236402650122457:=Prop
def tw9305391788130653963:=Prop
def tw11637195238256488622:=Prop
def tw8824595633291508535:=Prop
def tw1877735476730380715:=Prop
def tw14624137194681822032:=Prop
def tw9308725717764142674:=Prop
def tw12847321847948890356:=Prop
def tw15568136977402293060:=Prop
def tw8954067861541931720:=Prop
def tw14199714164133228370:=Prop
def tw9761588102954696855:=Prop
def tw11031534732012005413:=Prop
def tw4449657751673405704:=Prop
def tw5764117369366255280:=Prop
def tw726985913927333873:=Prop
def tw15718574390098580149:=Prop
def tw2385268686561707046:=Prop
def tw2335157872551914648:=Prop
def tw2927799364441409784:=Prop
def tw729466047920990731:=Prop
def tw11717690317537128808:=Prop
def tw17513604867990543079:=Prop
def tw9122274009815981030:=Prop
def tw8445716188487379795:=Prop
def tw2463093255817348941:=Prop
def tw969648714781328785:=Prop
def tw347805415268056836:=Prop
def tw8605165415444627158:=Prop
def tw1263530329285510388:=Prop
def tw13553050674002434610:=Prop
def tw1840282097412291383:=Prop
def tw14987661418082201831:=Prop
def tw7097827964152542560:=Prop
def tw1722802803701587481:=Prop
def tw3382304716988349589:=Prop
def tw15632992782082381434:=Prop
def tw15934030157929616494:=Prop
def tw2754692670688779762:=Prop
def tw2923001932562327482:=Prop
def tw712222309637291157:=Prop
def tw16803761856603993428:=Prop
def tw5426448371682200115:=Prop
def tw3450989490954552525:=Prop
def tw8126552424372712672:=Prop
def tw5661640270340304354:=Prop
def tw4769901133546641911:=Prop
def tw17094580856887593759:=Prop
def tw3904583755211930517:=Prop
def tw17119971604622065936:=Prop
def tw838488071084229480:=Prop
def tw14788362278542820120:=Prop
def tw16025434724436758002:=Prop
def tw9082797191178416523:=Prop
def tw9316670756482807701:=Prop
def tw14124935244785052151:=Prop
def tw2207375189310295436:=Prop
def tw2648174423076098445:=Prop
def tw5266450434754204200:=Prop
def tw10069975712529536831:=Prop
def tw7317234293075219:=Prop
def tw2969480146181677978:=Prop
def tw18431155831084640082:=Prop
def tw11069628954808310989:=Prop
def tw9832553117377153458:=Prop
def tw3892864765347196996:=Prop
def tw7942853410682446962:=Prop
def tw17698735102306075112:=Prop
def tw317932667124481529:=Prop
def tw15078095837771203109:=Prop
def tw11118301316682269745:=Prop
def tw11188117447681078326:=Prop
def tw16186510892431351131:=Prop
def tw14749253800190834908:=Prop
def tw6215920317759002765:=Prop
def tw519266280920424228:=Prop
def tw16296626546367184724:=Prop
def tw9466130334346563993:=Prop
def tw11763852733077360975:=Prop
def tw15977843376605620593:=Prop
def tw8526028360262338249:=Prop
def tw10052001805573714066:=Prop
def tw548943366391343654:=Prop
def tw11331162828799738194:=Prop
def tw17398146341500462573:=Prop
def tw1877378965866140348:=Prop
def tw306725001281121169:=Prop
def tw4153491320931672185:=Prop
def tw15545184769064153574:=Prop
def tw5565376262109202332:=Prop
def tw10267551232223586437:=Prop
def tw11165118516710488114:=Prop
def tw16396790404030501481:=Prop
def tw12067549021546063074:=Prop
def tw15755044616229629136:=Prop
def tw16809252239103401712:=Prop
def tw2857234818492195956:=Prop
def tw17401831432661337422:=Prop
def tw4916127144345927284:=Prop
def tw1647960591809683682:=Prop
def tw2791417458454038152:=Prop
def tw17878424488110687958:=Prop
def tw14267268813261638861:=Prop
def tw12662363693902343356:=Prop
def tw5835942142707902020:=Prop
def tw4185518321428705831:=Prop
def tw3345597093286824917:=Prop
def tw5680315236850328200:=Prop
def tw8174591469460913490:=Prop
def tw15325311475551686242:=Prop
def tw15639028444304104736:=Prop
def tw1349615225243010270:=Prop
def tw15223397061033166810:=Prop
def tw763151578990004582:=Prop
def tw7089793799200125183:=Prop
def tw5916140570258018564:=Prop
def tw8159976661246289121:=Prop
def tw7340446101256811000:=Prop
def tw14323227155912201964:=Prop
def tw14734032772098568817:=Prop
def tw14900259974334564751:=Prop
def tw14552297945886922796:=Prop
def tw5769997320742902227:=Prop
def tw2962324470309885386:=Prop
def tw16266442582153907279:=Prop
def tw744308932230929381:=Prop
def tw2747774915501398362:=Prop
def tw8667492640987031791:=Prop
def tw13669522585143040522:=Prop
def tw11320351676317602388:=Prop
def tw11329467641453361123:=Prop
def tw13774056567397157767:=Prop
def tw13252108370143244208:=Prop
def tw5541168653056121806:=Prop
def tw6793172497655745189:=Prop
def tw6905212232875527693:=Prop
def tw13952158723898717365:=Prop
def tw18012574323051992567:=Prop
def tw5310652868755799522:=Prop
def tw8079883169468671255:=Prop
def tw10378583025934500588:=Prop
def tw7524379617451308511:=Prop
def tw12392129776423771058:=Prop
def tw6880125886219600808:=Prop
def tw15722476443830486393:=Prop
def tw1672204981616886009:=Prop
def tw7420531298404749032:=Prop
def tw4968929673044707356:=Prop
def tw13887902116395311400:=Prop
def tw16299953051713170110:=Prop
def tw12712400820596877648:=Prop
def tw10846345724684618374:=Prop
def tw13055661147411815287:=Prop
def tw3934833063311361131:=Prop
def tw14089793440868904340:=Prop
def tw274189353798237994:=Prop
def tw2873748437651673626:=Prop
def tw10896712999787139778:=Prop
def tw14029171239946634462:=Prop
def tw6771182271545134960:=Prop
def tw3664731896753646195:=Prop
def tw5315833730557488597:=Prop
def tw8891557043749499067:=Prop
def tw644751248652905101:=Prop
def tw10497823618577955822:=Prop
def tw13508602156133886167:=Prop
def tw2680141511932349947:=Prop
def tw10733525418748422364:=Prop
def tw897888412878121761:=Prop
def tw13761506922970006694:=Prop
def tw14279065940840616024:=Prop
def tw4038909232737020655:=Prop
def tw10131873952172028942:=Prop
def tw18329075359065952542:=Prop
def tw7950223703418521501:=Prop
def tw16463793508043411602:=Prop
def tw4888033052430993751:=Prop
def tw5847202018973711932:=Prop
def tw3808584094389355786:=Prop
def tw15261137711255440680:=Prop
def tw10800367221633172730:=Prop
def tw10134030333460990790:=Prop
def tw8860130008918733972:=Prop
def tw4177351759533223642:=Prop
def tw2202087279664922802:=Prop
def tw4773397407553703792:=Prop
def tw4799189423077775474:=Prop
def tw17456480263006714056:=Prop
def tw16034362830870596112:=Prop
def tw14763428746477059428:=Prop
def tw5363195699714531557:=Prop
def tw17666627728419048244:=Prop
def tw18182889222666715495:=Prop
def tw14335355579717207800:=Prop
def tw8674833295852230495:=Prop
def tw13853384548814360862:=Prop
def tw7894344252036594922:=Prop
def tw7090585071989052306:=Prop
def tw438459731153329746:=Prop
def tw8060744490709563079:=Prop
def tw11224361182253327997:=Prop
def tw12111957463147405440:=Prop
def tw11896190001472655623:=Prop
def tw15888159438429106303:=Prop
def tw10729351905339586543:=Prop
def tw14873902065993744872:=Prop
def tw4188684199736651882:=Prop
def tw1826987945724244988:=Prop
def tw17338234738716814015:=Prop
def tw12325562205625792791:=Prop
def tw6623812351622530092:=Prop
def tw1998032249293215463:=Prop
def tw14113110954290816071:=Prop
def tw10448383514627668160:=Prop
def tw9161490523856799436:=Prop
def tw6760056911573607715:=Prop
def tw6089177832033215386:=Prop
def tw10925597439039874015:=Prop
def tw1518964180924863737:=Prop
def tw11300376045408061371:=Prop
def tw12011070553636201877:=Prop
def tw3369663099759083609:=Prop
def tw18277388166739348960:=Prop
def tw6429450841261186155:=Prop
def tw4403367617266980805:=Prop
def tw3133745999044795564:=Prop
def tw1061639710858884176:=Prop
def tw671769174312181376:=Prop
def tw8369655760788974282:=Prop
def tw10232147439284725336:=Prop
def tw2374466318677132124:=Prop
def tw12319733152821033628:=Prop
def tw18443007809517869832:=Prop
def tw3083371992184736890:=Prop
def tw10354477200866600673:=Prop
def tw7395645310213146516:=Prop
def tw3302770140995672700:=Prop
def tw10661956449011590994:=Prop
def tw3048301304931576756:=Prop
def tw6252695792229605141:=Prop
def tw5802571108899374253:=Prop
def tw12487779173672901959:=Prop
def tw10393078302967963895:=Prop
def tw7007158731953197150:=Prop
def tw6205024481829086969:=Prop
def tw16884622931589843948:=Prop
def tw4034687210265294523:=Prop
def tw5015507407206683207:=Prop
def tw8621336744817483243:=Prop
def tw16408362238061914836:=Prop
def tw10412780308102683651:=Prop
def tw1817805791611690161:=Prop
def tw14064692534454641163:=Prop
def tw15155859288707382567:=Prop
def tw5425125011635884837:=Prop
def tw11347631108264317165:=Prop
def tw9513619709740374535:=Prop
def tw10728712052571211117:=Prop
def tw11586196018267737339:=Prop
def tw11522840503767320408:=Prop
def tw5805183375971660199:=Prop
def tw17590088832654516399:=Prop
def tw4842887358765978389:=Prop
def tw14398365135244066966:=Prop
def tw6606014719576569030:=Prop
def tw15250632263150132618:=Prop
def tw10467655280649657389:=Prop
def tw6999941293234460784:=Prop
def tw10241233070082051121:=Prop
def tw10285885531015897042:=Prop
def tw8249347019533418915:=Prop
def tw3321576952164483024:=Prop
def tw14112606434462084385:=Prop
def tw14593252181223967585:=Prop
def tw15988265368706215130:=Prop
def tw3488647797146898431:=Prop
def tw3903891618737965568:=Prop
def tw12319047049370110589:=Prop
def tw7834740603555865465:=Prop
def tw12590770754756799043:=Prop
def tw133755455108545178:=Prop
def tw16286715671046524454:=Prop
def tw12514039047250868702:=Prop
def tw5609530884314319229:=Prop
def tw6788773261714906821:=Prop
def tw12694112234171929671:=Prop
def tw6147076586173037292:=Prop
def tw2484844197603217540:=Prop
def tw7717702957765121957:=Prop
def tw13350131943787299761:=Prop
def tw1354003750591732747:=Prop
def tw14731147920152588799:=Prop
def tw11887224372650548316:=Prop
def tw8078195926588453703:=Prop
def tw5674458297940323589:=Prop
def tw3822784309164373692:=Prop
def tw12523711969749109062:=Prop
def tw11269825475406603969:=Prop
def tw11389117665151840592:=Prop
def tw12036168689724814288:=Prop
def tw5011889884212318148:=Prop
def tw1041263688889175116:=Prop
def tw10184835648761350555:=Prop
def tw11970942820725077907:=Prop
def tw8175973581910071180:=Prop
def tw1292346606274980823:=Prop
def tw16717272659965454103:=Prop
def tw14245618210516037357:=Prop
def tw6381902497316938245:=Prop
def tw1906461178052628661:=Prop
def tw6784790241324674965:=Prop
def tw2456577590951144490:=Prop
def tw8697654515486363317:=Prop
def tw8848340392469278725:=Prop
def tw8877373362634485534:=Prop
def tw12661032092557703082:=Prop
def tw4636031889025220839:=Prop
def tw1539761271059485607:=Prop
def tw3981585000120243262:=Prop
def tw4872952286622431662:=Prop
def tw12737541344736672974:=Prop
def tw6595744693926533701:=Prop
def tw5399014298235654608:=Prop
def tw16607927582987124570:=Prop
def tw13949155002146243131:=Prop
def tw4589182232624314844:=Prop
def tw14949513074056673275:=Prop
def tw15755219311246346914:=Prop
def tw16970792351503237766:=Prop
def tw1620389302784492585:=Prop
def tw10149639745659574222:=Prop
def tw13323373534744806615:=Prop
def tw15854262060937163188:=Prop
def tw17960848765466677729:=Prop
def tw1096354831752916523:=Prop
def tw7910172739516966087:=Prop
def tw7263363503728760936:=Prop
def tw17802128708061929859:=Prop
def tw9835382159548102362:=Prop
def tw5185991453625059868:=Prop
def tw5713610079918043996:=Prop
def tw14650769484350525481:=Prop
def tw18042889414512086050:=Prop
def tw11982959770356382578:=Prop
def tw1833547357909804662:=Prop
def tw16900135722406889126:=Prop
def tw3016012700857477809:=Prop
def tw3942624392001961204:=Prop
def tw12328853128172473661:=Prop
def tw5738919822854818926:=Prop
def tw6728313399510405491:=Prop
def tw2450569374399577549:=Prop
def tw16338214745046372782:=Prop
def tw6662249597110656733:=Prop
def tw5921587261177403197:=Prop
def tw11654023200298843171:=Prop
def tw16803143847538834185:=Prop
def tw11843833423457600547:=Prop
def tw15536387163757344236:=Prop
def tw15719748902143223830:=Prop
def tw17108046237660401759:=Prop
def tw16504757533647375273:=Prop
end PySem.W.Fast
open PySem PySem.W PyProof.Rows
set_option maxRecDepth 100000
set_option maxHeartbeats 0
open_top head for PySem.Challenge.rw_codemill_k56_whole_swapped_tells
theorem PySem.Challenge.cw_codemill_k56_whole_swapped_tells_holds : PySem.Challenge.rw_codemill_k56_whole_swapped_tells.Holds :=
 head (by
 k_fill
 refine My.walk (l:=PySem.Challenge.rw_codemill_k56_whole_swapped_tells) rfl rfl (fun w h Y=>PySem.W.kIn_of Y) ?F
 case F=>
  intro w mg fa h KX G hmg
  refine' My.all_mk KX G hmg ?_ ?_ ?_ ?_ ?_ ?_ ?_ ?_ ?_ ?_ ?_ ?_ ?_ ?_ ?_ ?_ ?_ ?_ ?_ ?_ ?_ ?_ ?_ ?_ ?_ ?_ ?_ ?_ ?_ ?_ ?_ ?_ ?_ ?_ ?_ ?_ ?_ ?_ ?_ ?_ ?_ ?_ ?_ ?_ ?_ ?_ ?_ ?_ ?_ ?_ ?_ ?_ ?_ ?_ ?_ ?_ ?_ ?_ ?_ ?_ ?_ ?_ ?_ ?_ ?_ ?_ ?_ ?_ ?_ ?_ ?_ ?_ ?_ ?_ ?_ ?_ ?_ ?_ ?_ ?_ ?_ ?_ ?_ ?_ ?_ ?_ ?_ ?_ ?_ ?_ ?_ ?_ ?_ ?_ ?_ ?_ ?_ ?_ ?_ ?_ ?_ ?_ ?_ ?_ ?_ ?_ ?_ ?_ ?_ ?_ ?_ ?_ ?_ ?_ ?_ ?_ ?_ ?_ ?_ ?_ ?_ ?_ ?_ ?_ ?_ ?_ ?_ ?_ ?_ ?_ ?_ ?_ ?_ ?_ ?_ ?_ ?_ ?_ ?_ ?_ ?_ ?_ ?_ ?_ ?_ ?_ ?_ ?_ ?_ ?_ ?_ ?_ ?_ ?_ ?_ ?_ ?_ ?_ ?_ ?_ ?_ ?_ ?_ ?_ ?_ ?_ ?_ ?_ ?_ ?_ ?_ ?_ ?_ ?_ ?_ ?_
  any_goals exact My.hdm (by k_is) (by k_is) (by k_is) (by k_is)
  any_goals exact My.cnm (by k_is) (by first | exact rfl | exact ⟨_,rfl⟩)
  any_goals exact My.ktm (by k_is) (by k_is) (by k_keys) (by first | exact rfl | decide) (by repeat (first | exact .nil | refine .cons ⟨⟨_,rfl⟩,(by first | exact rfl | exact ⟨_,rfl⟩)⟩ ?_))
  any_goals exact My.kum (by k_is) (by k_is) rfl rfl (by repeat (first | exact .nil | refine .cons (by first | exact rfl | exact ⟨_,rfl⟩) ?_)) (by decide)
  any_goals k_is
  any_goals exact My.mdm (by k_is) (by k_is) (My.lk_mk (by k_is) (by k_is) (by k_is))
  any_goals exact My.lk_mk (by k_is) (by k_is) (by k_is)
  any_goals first | exact rfl | exact ⟨_,rfl⟩ | k_keys | decide
  any_goals (repeat (first | exact .nil | refine .cons (by first | exact rfl | exact ⟨_,rfl⟩) ?_))
  any_goals k_is
  any_goals exact rfl)
