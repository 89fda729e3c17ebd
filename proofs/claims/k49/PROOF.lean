import PyProof.Rows.All
import Wide.All
import OpenK.AllK
import PySem.Challenge.RW_liftwave_k49_rows_read
open Array(length_toList)
open Bool(and_eq_true)
open Int(emod_lt_of_pos emod_nonneg)
open List(all_eq_true any_cons append_nil cons_append filterMap_cons filter_cons find?_cons forall_mem_cons getElem?_append_left getElem?_append_right getElem?_cons_succ getElem?_eq_getElem getElem?_map getElem?_set_ne getElem?_set_self length_append length_cons length_drop length_map length_replicate length_set length_singleton length_take lookup_cons map_append map_cons map_map mem_append mem_append_left mem_append_right mem_cons mem_cons_of_mem mem_cons_self mem_filterMap mem_map mem_of_getElem? mem_replicate mem_singleton nodup_append nodup_cons nodup_nil not_mem_nil of_mem_zip replicate_succ set_cons_succ set_cons_zero size_toArray)
open Nat(le_of_lt le_succ le_trans lt_irrefl lt_of_lt_of_le min_self ne_of_lt not_lt zero_le)
open Option(getD_none map_some)
open PySem(boot_len)
open PySem.F(excBase_ValueError plainAttrs_list plainAttrs_str)
open PySem.Heap(get?_push_of_some get?_push_size get?_update_of_ne get?_update_other get?_update_self lt_size size_push)
open PySem.W(Frag InitBack KeysLit binds_K callWith_K cellsFrom_some codeIn codeRec_of emptyDict excIn exmOne exm_one fnOf instObj isFn keepIn kia_one kitOne lookIn make_core makesIn makes_of mapOf_K methodObj mg_of nsIn plainGet plainOver takerIn)
set_option Elab.async false
set_option compiler.extract_closed false
set_option bootstrap.genMatcherCode false
set_option linter.all false
set_option maxRecDepth 100000
set_option hygiene false
local macro_rules |`(tactic|kj_on)=>`(tactic| (intro X hP hw hK hc i pins s Y H E I hf st hg;subst hP hw hK))
set_option hygiene true
namespace L2
open PySem PySem.Spec PyProof.Rows
abbrev Key:=Sum Int Str
def keyIs:Key->Value->Bool
 | .inl k,v=>Value.isInt k v
 | .inr x,v=>Value.isStrOf x v
def keyH (w:World):Key->Int
 | .inl k=>hashInt k
 | .inr x=>hashStr w x
theorem keyIs_shape:∀{k:Key} {v:Value},keyIs k v=true->(∃i t,k=Sum.inl i/\v=Value.int i t)∨(∃x t,k=Sum.inr x/\v=Value.str x t)
 | .inl i,v,h=>by
  obtain⟨t,e⟩:=Value.isInt_shape h
  exact .inl ⟨i,t,rfl,e⟩
 | .inr x,v,h=>by
  obtain⟨t,e⟩:=Value.isStrOf_shape h
  exact .inr ⟨x,t,rfl,e⟩
theorem key_ll (a b:Int):decide ((Sum.inl a:Key)=Sum.inl b)=(a==b):=by
 by_cases e:a=b
 .subst e;simp
 .have h:¬ (Sum.inl a:Key)=Sum.inl b:=λq=>e (Sum.inl.inj q)
  rw[decide_eq_false h]
  exact (beq_eq_false_iff_ne.mpr e).symm
theorem key_rr (a b:Str):decide ((Sum.inr a:Key)=Sum.inr b)=decide (a=b):=by
 by_cases e:a=b
 .subst e;simp
 .have h:¬ (Sum.inr a:Key)=Sum.inr b:=λq=>e (Sum.inr.inj q)
  rw[decide_eq_false h,decide_eq_false e]
theorem key_lr (a:Int)(b:Str):decide ((Sum.inl a:Key)=Sum.inr b)=false:=decide_eq_false (λq=>nomatch q)
theorem key_rl (a:Str)(b:Int):decide ((Sum.inr a:Key)=Sum.inl b)=false:=decide_eq_false (λq=>nomatch q)
def mixKind (prog:Program)(w:World):PySem.KeyKind prog w Key where
 is:=keyIs
 hash:=keyH w
 inj := λv a b ha hb=>by
  rcases keyIs_shape ha with⟨i,t,rfl,rfl⟩ | ⟨x,t,rfl,rfl⟩
  .rcases keyIs_shape hb with⟨j,u,rfl,e⟩ | ⟨y,u,rfl,e⟩
   .injection e with e1 _;rw[e1]
   .exact nomatch e
  .rcases keyIs_shape hb with⟨j,u,rfl,e⟩ | ⟨y,u,rfl,e⟩
   .exact nomatch e
   .injection e with e1 _;rw[e1]
 byValue:=λk v h=>by
  rcases keyIs_shape h with⟨i,t,rfl,rfl⟩ | ⟨x,t,rfl,rfl⟩<;>rfl
 pyHash:=λhv h=>by
  rcases keyIs_shape hv with⟨i,t,rfl,rfl⟩ | ⟨x,t,rfl,rfl⟩
  .exact wpAny_pyHash_int h
  .exact wpAny_pyHash_str h
 eqBool:=λhu hv h=>by
  rcases keyIs_shape hu with⟨i,t,rfl,rfl⟩ | ⟨x,t,rfl,rfl⟩
  .rcases keyIs_shape hv with⟨j,u,rfl,rfl⟩ | ⟨y,u,rfl,rfl⟩
   .rw [key_ll]at h;exact wpAny_eqBool_int h
   .rw [key_lr]at h;exact SeqAt.EqAt.int_str i t y u _ _ _ _ h
  .rcases keyIs_shape hv with⟨j,u,rfl,rfl⟩ | ⟨y,u,rfl,rfl⟩
   .rw [key_rl]at h;exact SeqAt.EqAt.str_int x t j u _ _ _ _ h
   .rw [key_rr]at h;exact wpAny_eqBool_str h
 «strs»:=λk x t v h=>by
  rcases keyIs_shape h with⟨i,u,rfl,e⟩ | ⟨y,u,rfl,e⟩
  .exact nomatch e
  .injection e with e1 _
   subst e1
   cases v<;>rfl
inductive V where
 |non |bl (b:Bool) |int (i:Int) |str (x:Str) |byt (b:Array UInt8) |flt (b:UInt64) |ref (a:Addr) |ty (n:String)
 deriving DecidableEq
def RelV:V->Value->Prop
 | .non,u=>u=Value.none
 | .bl b,u=>u=Value.bool b
 | .int i,u=>∃t,u=Value.int i t
 | .str x,u=>∃t,u=Value.str x t
 | .byt b,u=>∃t,u=Value.bytes b t
 | .flt b,u=>∃t,u=Value.float b t
 | .ref a,u=>u=Value.ref a
 | .ty n,u=>u=Value.type n
abbrev Vals:List V->List Value->Prop:=Paired RelV
theorem Vals.length {xs:List V}{us:List Value}(r:Vals xs us):xs.length=us.length:=Paired.length r
theorem Vals.get:∀{xs:List V} {us:List Value} {i:Nat} {x:V},Vals xs us->xs[i]?=some x->∃u,us[i]?=some u/\RelV x u
 |_,_,_,_,.nil,e=>by simp at e
 |_,_,0,_,.cons r _,e=>by simp at e;subst e;exact⟨_,rfl,r⟩
 |_,_,i+1,x,.cons _ t,e=>by
  obtain⟨u,h1,h2⟩:=Vals.get t e
  exact⟨u,h1,h2⟩
theorem Vals.set {x:V}{u:Value}(r:RelV x u):∀{xs:List V} {us:List Value} (i:Nat),Vals xs us->Vals (xs.set i x) (us.set i u)
 |_,_,_,.nil=>.nil
 |_,_,0,.cons _ t=>.cons r t
 |_,_,i+1,.cons q t=>.cons q (Vals.set r i t)
theorem Vals.append:∀{xs ys:List V} {us ws:List Value},Vals xs us->Vals ys ws->Vals (xs++ys) (us++ws)
 |_,_,_,_,.nil,s=>s
 |_,_,_,_,.cons r t,s=>.cons r (Vals.append t s)
theorem Vals.take:∀{xs:List V} {us:List Value} (n:Nat),Vals xs us->Vals (xs.take n) (us.take n)
 |_,_,0,_=>.nil
 |_,_,_+1,.nil=>.nil
 |_,_,n+1,.cons r t=>.cons r (Vals.take n t)
theorem Vals.drop:∀{xs:List V} {us:List Value} (n:Nat),Vals xs us->Vals (xs.drop n) (us.drop n)
 |_,_,0,r=>r
 |_,_,_+1,.nil=>.nil
 |_,_,n+1,.cons _ t=>Vals.drop n t
def RelO:Option V->Option Value->Prop
 |some v,some u=>RelV v u
 |none,none=>True
 |_,_=>False
def KV {κ:Type}:List (κ×V)->List (κ×Value)->Prop:=Paired λ(p:κ×V) (q:κ×Value)=>p.1=q.1/\RelV p.2 q.2
def kV:Key->V
 | .inl i=>.int i
 | .inr x=>.str x
inductive HO where
  |lst (xs:List V)
  |tup (xs:List V)
  |dK (kvs:List (Key×V)) |dT (kvs:List (List Key×V))
  |set (S:Int->Bool) (n:Nat)
  |ins (C dx:Addr) (fs:List (Str×V))
  |own (x:Addr)
  |xd (fs:List (Str×V))
  |met (f x:Addr)
  |rng (lo hi:Int)
  |frz (o:Obj) (u:HO)
  |tbl (ps:Array Value)
 |cod (p:Pos) (q:Str)
  |ext (φ:Heap->Prop)
def isCod (oc:Obj)(q:Str):Prop:=∃vs t,oc.data = .fields vs/\vs[1]?=some (.str q t)
def refd (u:HO):Prop:=(∃xs,u = .tup xs)∨∃oc c q,u = .frz oc (.own c)/\isCod oc q
abbrev Hp:=Addr->Option HO
def upd (H:Hp)(a:Addr)(o:HO):Hp:=λb=>if b=a then some o else H b
theorem upd_same {H:Hp}{a:Addr}{o:HO}:upd H a o a=some o:=by unfold upd;rw[if_pos rfl]
theorem upd_ne {H:Hp}{a b:Addr}{o:HO}(h:b≠a):upd H a o b=H b:=by unfold upd;rw[if_neg h]
theorem ne_of_none {H:Hp}{a b:Addr}{o:HO}(h:H a=some o)(h':H b=none):a≠b:=by
 intro e;subst e;rw[h]at h';cases h'
section
variable (P:Program)(w:World)
def ObjOk (H:Hp)(h:Heap)(a:Addr):HO->Prop
 | .lst xs=>xs.length<=sizeLine/\∃(its:List Value) (n:Nat),Vals xs its/\h.get? a=some {cls:=.type "list",data:=.seq its.toArray n}
 | .tup xs=>xs.length<=sizeLine/\∃its:List Value,Vals xs its/\IsTup h a its.toArray
 | .dK kvs=>kvs.length<=sizeLine/\(a==sysModules)=false/\∃vs,KV kvs vs/\h.DictOf (mixKind P w) a vs
 | .dT kvs=>kvs.length<=sizeLine/\(a==sysModules)=false/\∃xs:List (List Key×Addr×Value),
   Paired (λ(p:List Key×V) (q:List Key×Addr×Value)=>p.1=q.1/\H q.2.1=some (.tup (p.1.map kV))/\RelV p.2 q.2.2) kvs xs/\
   ∃o es ep,h.get? a=some o/\o.ExactDict/\o.data = .dict es ep/\es.toList=xs.map (entryOfKey (tupleKind (mixKind P w)))/\(xs.map (·.1)).Nodup
 | .set S n=>h.SetOf (intKind P w) a S n
 | .ins C dx fs=>H dx=some (.own a)/\fs.length<=1000/\dx≠a/\h.get? a=some (instObj C dx)/\
   ∃mA,h.Ns1 dx mA/\(∀f,RelO (fs.lookup f) (mA f))/\PySem.Within mA (fs.map (·.1))
 | .own _=>∃o,h.get? a=some o
 | .xd fs=>∃mA,h.Ns1 a mA/\∀f,RelO (fs.lookup f) (mA f)
 | .rng lo hi=>∃t u v,h.get? a=some {cls:=.type "range",data:=.fields #[.int lo t,.int hi u,.int 1 v]}
 | .frz o u=>h.get? a=some o/\ObjOk H h a u
 | .tbl ps=>h.get? a=some {cls:=.none,data:=.fields ps}
 | .cod p q=>∃ps:Array Value,h.get? a=some {cls:=.none,data:=.fields ps}/\TriplesOk ps.toList/\∀v,codeAmong p ps.toList=some v->∃c oc,v = .ref c/\H c=some (.frz oc (.own c))/\isCod oc q
 | .met f x=>h.get? a=some (methodObj (.ref f) (.ref x))
 | .ext φ=>φ h/\(∃o,h.get? a=some o)/\∀h1 h2:Heap,φ h1->(∀o,h1.get? a=some o->h2.get? a=some o)->φ h2
def HOk (H:Hp)(h:Heap):Prop:=∀a o,H a=some o->ObjOk P w H h a o
end
section
variable {P:Program}{w:World}{H H':Hp}{h h':Heap}{a:Addr}{o:HO}
theorem ObjOk.lt (x:ObjOk P w H h a o):a<h.objs.size:=by
 cases o with
 |lst xs=>obtain⟨_,_,_,_,e⟩:=x;exact lt_size e
 |tup xs=>obtain⟨_,_,_,p⟩:=x;exact p.lt
 |dK kvs=>obtain⟨_,_,_,_,o,_,_,e,_⟩:=x;exact lt_size e
 |dT kvs=>obtain⟨_,_,_,_,o,_,_,e,_⟩:=x;exact lt_size e
 |set S n=>obtain⟨o,_,_,_,e,_⟩:=x;exact lt_size e
 |ins C dx fs=>obtain⟨_,_,_,e,_⟩:=x;exact lt_size e
 |own y=>obtain⟨_,e⟩:=x;exact lt_size e
 |xd fs=>obtain⟨_,⟨_,_,_,e,_⟩,_⟩:=x;exact lt_size e
 |rng lo hi=>obtain⟨_,_,_,e⟩:=x;exact lt_size e
 |frz ob u=>obtain⟨e,_⟩:=x;exact lt_size e
 |tbl ps=>exact lt_size (show h.get? a=some _ from x)
 |cod p q=>obtain⟨_,e,_⟩:=x;exact lt_size e
 |met f y=>exact lt_size (show h.get? a=some _ from x)
 |ext φ=>obtain⟨_,⟨_,e⟩,_⟩:=x;exact lt_size e
theorem Paired.mapP {α β:Type}{F δ:α->β->Prop}:∀{l₁:List α} {l₂:List β},Paired F l₁ l₂->(∀a b,F a b->δ a b)->Paired δ l₁ l₂
 |_,_,.nil,_=>.nil
 |_,_,.cons r t,f=>.cons (f _ _ r) (Paired.mapP t f)
theorem ObjOk.stay (x:ObjOk P w H h a o)(k:∀b u,(b=a∨H b=some (.own a))->h.get? b=some u->h'.get? b=some u)
  (ho:∀b,H b=some (.own a)->H' b=some (.own a)) (ht:∀b u,H b=some u->refd u->H' b=some u):ObjOk P w H' h' a o:=by
 induction o with
 |lst xs=>obtain⟨z,its,n,r,e⟩:=x;exact⟨z,its,n,r,k _ _ (.inl rfl) e⟩
 |tup xs=>obtain⟨z,its,r,ob,e,c⟩:=x;exact⟨z,its,r,ob,k _ _ (.inl rfl) e,c⟩
 |dK kvs=>obtain⟨z,y,vs,r,ob,es,ep,e,c⟩:=x;exact⟨z,y,vs,r,ob,es,ep,k _ _ (.inl rfl) e,c⟩
 |dT kvs=>
  obtain⟨z,y,xs,r,ob,es,ep,e,c⟩:=x
  exact⟨z,y,xs,Paired.mapP r λp q z=>⟨z.1,ht _ _ z.2.1 (.inl ⟨_,rfl⟩),z.2.2⟩,ob,es,ep,k _ _ (.inl rfl) e,c⟩
 |set S n=>obtain⟨ob,es,ep,t,e,c⟩:=x;exact⟨ob,es,ep,t,k _ _ (.inl rfl) e,c⟩
 |ins C dx fs=>
  obtain⟨d,z,ne,e,mA,⟨od,es,ep,e2,c⟩,r⟩:=x
  exact⟨ho _ d,z,ne,k _ _ (.inl rfl) e,mA,⟨od,es,ep,k _ _ (.inr d) e2,c⟩,r⟩
 |own y=>obtain⟨ob,e⟩:=x;exact⟨ob,k _ _ (.inl rfl) e⟩
 |xd fs=>obtain⟨mA,⟨od,es,ep,e,c⟩,r⟩:=x;exact⟨mA,⟨od,es,ep,k _ _ (.inl rfl) e,c⟩,r⟩
 |rng lo hi=>obtain⟨t,u,v,e⟩:=x;exact⟨t,u,v,k _ _ (.inl rfl) e⟩
 |frz ob u ih=>obtain⟨e,q⟩:=x;exact⟨k _ _ (.inl rfl) e,ih q⟩
 |tbl ps=>
  have e:h.get? a=some {cls:=.none,data:=.fields ps}:=x
  show h'.get? a=some {cls:=.none,data:=.fields ps}
  exact k a _ (.inl rfl) e
 |cod p q=>
  obtain⟨ps,e,ht',hc⟩:=x
  exact⟨ps,k _ _ (.inl rfl) e,ht',λv hv=>let⟨c,oc,e1,e2,e3⟩:=hc v hv;⟨c,oc,e1,ht _ _ e2 (.inr ⟨_,_,_,rfl,e3⟩),e3⟩⟩
 |met f y=>
  have e:h.get? a=some (methodObj (.ref f) (.ref y)):=x
  show h'.get? a=some (methodObj (.ref f) (.ref y))
  exact k a _ (.inl rfl) e
 |ext φ=>obtain⟨p,⟨o,e⟩,st⟩:=x;exact⟨st _ _ p λo q=>k _ _ (.inl rfl) q,⟨o,k _ _ (.inl rfl) e⟩,st⟩
theorem HOk.lt (x:HOk P w H h)(e:H a=some o):a<h.objs.size:=(x a o e).lt
theorem HOk.fresh (x:HOk P w H h)(e:h.objs.size<=a):H a=none:=by
 cases q:H a with
 |none=>rfl
 |some u=>exact absurd (lt_of_lt_of_le (x.lt q) e) (lt_irrefl _)
theorem HOk.kept (x:HOk P w H h)(k:∀b u,h.get? b=some u->h'.get? b=some u):HOk P w H h':=λa o e=>
 (x a o e).stay (λb u _ q=>k b u q) (λ_ q=>q) λ_ _ q _=>q
theorem HOk.laid (x:HOk P w H h)(k:∀b u,h.get? b=some u->h'.get? b=some u)(hp:h.objs.size<=a)(new:ObjOk P w (upd H a o) h' a o):HOk P w (upd H a o) h':=λb u e=>by
 have hn:=x.fresh hp
 by_cases hb:b=a
 .subst hb;rw[upd_same]at e;cases e;exact new
 .rw [upd_ne hb]at e
  exact (x b u e).stay (λc v _ q=>k c v q) (λc q=>by rw[upd_ne (ne_of_none q hn)];exact q) λc xs q _=>by rw[upd_ne (ne_of_none q hn)];exact q
end
def Rd (H:Hp)(a:Addr)(u:HO):Prop:=H a=some u∨∃o,H a=some (.frz o u)
theorem Rd.of {H:Hp}{a:Addr}{u:HO}(h:H a=some u):Rd H a u:=.inl h
theorem Rd.ok {P:Program}{w:World}{H:Hp}{h:Heap}{a:Addr}{u:HO}(r:Rd H a u)(x:HOk P w H h):ObjOk P w H h a u:=by
 rcases r with r | ⟨o,r⟩
 .exact x a u r
 .obtain ⟨_,q⟩:=x a _ r
  exact q
def Mut:Option HO->Prop
 |some (.lst _)=>True
 |some (.dK _)=>True
 |some (.dT _)=>True
 |some (.set _ _)=>True
 |some (.ins _ _ _)=>True
 |some (.ext _)=>True
 |_=>False
section
variable {P:Program}{w:World}{H:Hp}{h h':Heap}{x e:Addr}{o':HO}
theorem HOk.write (ok:HOk P w H h)(mu:Mut (H x))(he:e=x∨H e=some (.own x))(k:∀b u,b≠e->h.get? b=some u->h'.get? b=some u)(heo:∃u,h'.get? e=some u)
  (new:ObjOk P w (upd H x o') h' x o'):HOk P w (upd H x o') h':=λb u q=>by
 have nown:∀c y,H c=some (.own y)->c≠x:=λc y r z=>by subst z;rw[r]at mu;exact mu
 have ntup:∀c u,H c=some u->refd u->c≠x:=λc u r i z=>by subst z;rw[r]at mu;rcases i with⟨_,rfl⟩ | ⟨_,_,_,rfl,_⟩<;>exact mu
 by_cases hb:b=x
 .subst hb;rw[upd_same]at q;cases q;exact new
 .rw [upd_ne hb]at q
  by_cases hbe:b=e
  .have q':H b=some (.own x):=by
    rcases he with z |z
    .exact absurd (hbe.trans z) hb
    .rw [hbe];exact z
   rw[q]at q';cases q'
   obtain⟨v,hv⟩:=heo
   exact⟨v,by rw[hbe];exact hv⟩
  .refine (ok b u q).stay (λc v hc r=>k c v ?_ r) (λc r=>by rw[upd_ne (nown c b r)];exact r) λc xs r i=>by rw[upd_ne (ntup c xs r i)];exact r
   rcases hc with rfl |hc
   .exact hbe
   .rintro rfl
    rcases he with z |z
    .exact nown c b hc z
    .rw [hc]at z;cases z;exact hb rfl
end
structure Un (fs ex:List Addr) (H H':Hp) (h h':Heap):Prop where
 keep:∀b o,h.get? b=some o->H b=none->b∉fs->b∉ex->h'.get? b=some o
 slot:∀b o,h.get? b=some o->H b=none->b∈fs->b∉ex->∃sl,h'.get? b=some {o with slots:=sl}
 free:∀b o,h.get? b=some o->H b=none->b∉ex->H' b=none
 there:∀b o,h.get? b=some o->b∉ex->∃o',h'.get? b=some o'
 tups:∀b xs,H b=some (.tup xs)->H' b=some (.tup xs)
 frzs:∀b o u,H b=some (.frz o u)->H' b=some (.frz o u)
 tbls:∀b ps,H b=some (.tbl ps)->∃more,H' b=some (.tbl (ps++more))
section
variable {fs fs' ex ex':List Addr}{H H1 H2:Hp}{h h1 h2 h':Heap}{a x e:Addr}{o:HO}
theorem Un.any (u:Un fs ex H H1 h h1){b:Addr}{ob:Obj}(q:h.get? b=some ob)(n:H b=none)(hx:b∉ex):∃sl,h1.get? b=some {ob with slots:=sl}:=by
 by_cases hb:b∈fs
 .exact u.slot b ob q n hb hx
 .exact ⟨ob.slots,u.keep b ob q n hb hx⟩
theorem Un.trans (a:Un fs ex H H1 h h1)(b:Un fs ex H1 H2 h1 h2):Un fs ex H H2 h h2 where
 keep:=λc ob q n hc hx=>b.keep c ob (a.keep c ob q n hc hx) (a.free c ob q n hx) hc hx
 slot:=λc ob q n hc hx=>by
  obtain⟨sl,e1⟩:=a.slot c ob q n hc hx
  obtain⟨sl',e2⟩:=b.slot c _ e1 (a.free c ob q n hx) hc hx
  exact⟨sl',e2⟩
 free:=λc ob q n hx=>by
  obtain⟨o',e1⟩:=a.there c ob q hx
  exact b.free c o' e1 (a.free c ob q n hx) hx
 there:=λc ob q hx=>by
  obtain⟨o',e1⟩:=a.there c ob q hx
  exact b.there c o' e1 hx
 tups:=λc xs q=>b.tups c xs (a.tups c xs q)
 frzs:=λc ob xs q=>b.frzs c ob xs (a.frzs c ob xs q)
 tbls:=λc ps q=>by
  obtain⟨m1,e1⟩:=a.tbls c ps q
  obtain⟨m2,e2⟩:=b.tbls c _ e1
  exact⟨m1++m2,by rw[e2,Array.append_assoc]⟩
theorem Un.kept (k:∀b u,h.get? b=some u->h'.get? b=some u):Un fs ex H H h h':=
 ⟨λb ob q _ _ _=>k b ob q,λb ob q _ _ _=>⟨ob.slots,k b ob q⟩,λ_ _ _ n _=>n,λb ob q _=>⟨ob,k b ob q⟩,λ_ _ q=>q,λ_ _ _ q=>q,λ_ ps q=>⟨#[],by rw[q];simp⟩⟩
theorem Un.refl:Un fs ex H H h h:=Un.kept λ_ _ q=>q
theorem Un.laid (k:∀b u,h.get? b=some u->h'.get? b=some u)(hp:h.objs.size<=a)(hn:H a=none):Un fs ex H (upd H a o) h h' where
 keep:=λb u q _ _ _=>k b u q
 slot:=λb u q _ _ _=>⟨u.slots,k b u q⟩
 free:=λb u q n _=>by rw[upd_ne (ne_of_lt (lt_of_lt_of_le (lt_size q) hp))];exact n
 there:=λb u q _=>⟨u,k b u q⟩
 tups:=λb xs q=>by rw[upd_ne (ne_of_none q hn)];exact q
 frzs:=λb u xs q=>by rw[upd_ne (ne_of_none q hn)];exact q
 tbls:=λb ps q=>⟨#[],by rw[upd_ne (ne_of_none q hn),q];simp⟩
theorem Un.write (mu:Mut (H x))(he:e=x∨H e=some (.own x))(k:∀b u,b≠e->h.get? b=some u->h'.get? b=some u)(heo:∃u,h'.get? e=some u):Un fs ex H (upd H x o) h h':=by
 have hx:∀b,H b=none->b≠x:=λb n z=>by subst z;rw[n]at mu;exact mu
 have hb:∀b,H b=none->b≠e:=λb n z=>by
  subst z
  rcases he with r |r
  .exact hx b n r
  .rw [n]at r;cases r
 have hm:∀b u,H b=some u->¬ Mut (some u)->b≠x:=λb u q nm z=>by subst z;rw[q]at mu;exact nm mu
 refine⟨λb u q n _ _=>k b u (hb b n) q,λb u q n _ _=>⟨u.slots,k b u (hb b n) q⟩,λb u q n _=>by rw[upd_ne (hx b n)];exact n,λb u q _=>?_,
  λb xs q=>by rw[upd_ne (hm b _ q λz=>z)];exact q,λb u xs q=>by rw[upd_ne (hm b _ q λz=>z)];exact q,λb ps q=>⟨#[],by rw[upd_ne (hm b _ q λz=>z),q];simp⟩⟩
 by_cases hbe:b=e
 .subst hbe;exact heo
 .exact ⟨u,k b u hbe q⟩
end
def trk (h:Heap)(H:Hp):List Addr:=(List.range h.objs.size).filter λa=>(H a).isSome
def hidT (h:Heap)(H:Hp):Heap:=PySem.W.hideAll h (trk h H)
theorem hidT_size (h:Heap)(H:Hp):(hidT h H).objs.size=h.objs.size:=PySem.W.hideAll_size _ _
theorem hidT_get {h:Heap}{H:Hp}{b:Addr}{o:Obj}(e:h.get? b=some o)(n:H b=none):(hidT h H).get? b=some o:=
 PySem.W.hideAll_get _ e λhm=>by
  have q:(H b).isSome=true:=(List.mem_filter.mp hm).2
  rw[n]at q;simp at q
theorem of_hidT {h:Heap}{H:Hp}{b:Addr}{o:Obj}(e:(hidT h H).get? b=some o):h.get? b=some o/\H b=none:=by
 have e':h.get? b=some o:=PySem.W.of_hideAll (trk h H) e
 refine⟨e',?_⟩
 cases q:H b with
 |none=>rfl
 |some x=>
  have hm:b∈trk h H:=List.mem_filter.mpr ⟨List.mem_range.mpr (lt_size e'),by simp[q]⟩
  have z:(hidT h H).get? b=none:=PySem.W.hideAll_none (trk h H) hm
  rw[z]at e;cases e
def allNews (g h:Heap)(L:Addr):List (Addr×Obj):=(List.range h.objs.size).filterMap λa=>if a=L∨(g.get? a).isSome=true then none else (h.get? a).map λo=>(a,o)
def rest (g h:Heap)(L d:Addr):List (Addr×Obj):=(allNews g h L).filter λp=>decide (p.1≠d)
structure Mod (K:Frag) (mg:Str->Option Value) (base:Heap):Prop where
 kin:K.In base
 glob:base.Ns mainGlobals mg
 blt:∃mb,base.Ns builtinsNs mb/\∀x:Str,x ≠ "__name__"->mb x=bootBuiltins x
 nolimit:base.NoLimit
structure Cx where
 prog:Program
 w:World
 K:Frag
 mg:Str->Option Value
 base:Heap
 A:Around
 N:List Str
 s₀:Shared
 H₀:Hp
 env:Env
 outer:List Env
 stack:List Env
 ex:List Addr
 fn:Str->Bool
 calm:Bool
 pn:List (Addr×Obj)
 xe:Value->Shared->Prop
def frs (l:List Env):List Addr:=l.filterMap (·.frame)
abbrev Cx.fs (X:Cx):List Addr:=frs X.outer
def Vis (sc:Scope)(x:Str):Prop:=sc.names.lookup x=some .local∨sc.names.lookup x=some .cell∨sc.names.lookup x=some .free
def Loc (sc:Scope)(x:Str):Prop:=sc.names.lookup x=some .local∨sc.names.lookup x=some .cell
def Look (env:Env)(h:Heap)(m:Str->Option Value)(x:Str)(u:Value):Prop:=
 (env.kindOf x=some .local/\m x=some u)∨((env.kindOf x=some .cell∨env.kindOf x=some .free)/\∃c,env.cells.lookup x=some c/\h.IsCell c (some u))
structure Cx.Ok (X:Cx):Prop where
 mod:Mod X.K X.mg X.base
 kind:X.env.scope.kind = .function
 glob:X.env.globals=mainGlobals
 blt:X.env.builtins=builtinsNs
 above:X.s₀.heap.objs.size<=X.env.locals
 inj:∀x y c,X.env.cells.lookup x=some c->X.env.cells.lookup y=some c->x=y
 has:∀x,(X.env.kindOf x=some .cell∨X.env.kindOf x=some .free)->∃c,X.env.cells.lookup x=some c
 cab:∀x c,X.fn x=true->X.env.cells.lookup x=some c->X.s₀.heap.objs.size<=c
 hd:X.calm=true->X.A.handled=none
 frames:X.A.frames=some X.stack
 stk:X.stack=X.outer∨(X.stack=X.env::X.outer/\X.env.frame=some X.env.locals)
 exf:∀b∈X.ex,b≠X.env.locals/\∀x c,X.env.cells.lookup x=some c->c≠b
 bs:∀b o,X.base.get? b=some o->X.s₀.heap.get? b=some o/\X.H₀ b=none
 bsz:X.base.objs.size<=X.s₀.heap.objs.size
 noex:∀b o,X.base.get? b=some o->b∉X.ex
 exfs:∀b∈X.ex,b∉X.fs
 funs:X.s₀.heap.FunFrames X.base X.outer
 frf:∀b∈X.fs,X.H₀ b=none
structure Inv (X:Cx) (pins:List (Addr×Obj)) (Y:List (Option V)) (H:Hp) (s:Shared):Prop where
 ok:X.Ok
 os:s.os=X.s₀.os
 bare:AllBare s.gens
 base:Un X.fs X.ex X.H₀ H X.s₀.heap s.heap
 loc:∃m,s.heap.Ns X.env.locals m/\∀(i:Nat) (x:Str) (v:V),X.N[i]?=some x->Y[i]?=some (some v)->Vis X.env.scope x->∃u,RelV v u/\Look X.env s.heap m x u
 cell:∀x c,X.env.cells.lookup x=some c->∃v,s.heap.IsCell c v
 free:H X.env.locals=none
 freeC:∀x c,X.env.cells.lookup x=some c->H c=none
 pin:∀p∈X.pn++pins,s.heap.get? p.1=some p.2/\H p.1=none/\p.1≠X.env.locals/\p.1∉X.fs/\∀v,p.2.data≠.cell v
 hok:HOk X.prog X.w H s.heap
 len:Y.length=X.N.length
section
variable {X:Cx}{pins:List (Addr×Obj)}{Y:List (Option V)}{H H':Hp}{s:Shared}{h':Heap}
theorem Cx.Ok.nofr (ok:X.Ok){b:Addr}{o:Obj}(e:X.base.get? b=some o):b∉X.fs:=λhb=>by
 have:=(ok.funs.mem hb).1
 rw[e]at this;cases this
theorem Inv.bs (I:Inv X pins Y H s):∀b o,X.base.get? b=some o->s.heap.get? b=some o/\H b=none:=λb o e=>
 ⟨I.base.keep b o (I.ok.bs b o e).1 (I.ok.bs b o e).2 (I.ok.nofr e) (I.ok.noex b o e),I.base.free b o (I.ok.bs b o e).1 (I.ok.bs b o e).2 (I.ok.noex b o e)⟩
theorem Inv.bk (I:Inv X pins Y H s):∀b o,X.base.get? b=some o->s.heap.get? b=some o:=λb o e=>(I.bs b o e).1
theorem Inv.mod (I:Inv X pins Y H s):Mod X.K X.mg X.base:=I.ok.mod
theorem Inv.kIn (I:Inv X pins Y H s):X.K.In s.heap:=I.ok.mod.kin.keeps I.bk
theorem Inv.nolimit (I:Inv X pins Y H s):s.heap.NoLimit:=I.ok.mod.nolimit.keeps I.bk
theorem Inv.lt (I:Inv X pins Y H s):X.env.locals<s.heap.objs.size:=let⟨_,hn,_⟩:=I.loc;hn.lt
theorem Inv.sz (I:Inv X pins Y H s):X.s₀.heap.objs.size<=s.heap.objs.size:=le_trans I.ok.above (le_of_lt I.lt)
theorem Inv.nofs (I:Inv X pins Y H s){a:Addr}(h:s.heap.objs.size<=a):a∉X.fs:=λhb=>by
 obtain⟨_,o,ho,_⟩:=I.ok.funs.mem hb
 exact absurd (lt_of_lt_of_le (lt_size ho) (le_trans I.sz h)) (lt_irrefl _)
theorem Inv.cne (I:Inv X pins Y H s):∀x c,X.env.cells.lookup x=some c->c≠X.env.locals:=λx c e z=>by
 obtain⟨v,o,ho,hd⟩:=I.cell x c e
 obtain⟨m,⟨o',es,ep,ho',hd',_⟩,_⟩:=I.loc
 rw[z,ho']at ho;cases ho;rw[hd']at hd;cases hd
theorem Inv.funs (I:Inv X pins Y H s):s.heap.FunFrames X.base X.outer:=by
 have all:∀(l:List Env),(∀b∈frs l,b∈X.fs)->X.s₀.heap.FunFrames X.base l->s.heap.FunFrames X.base l:=by
  intro l
  induction l with
  |nil=>intro _ _;trivial
  |cons env r ih=>
   intro hs hl
   obtain⟨hk,⟨L,o,hf,hn,ho,hd⟩,hr⟩:=hl
   have hL:L∈X.fs:=hs L (by unfold frs;rw[filterMap_cons,hf];exact mem_cons_self)
   obtain⟨sl,e⟩:=I.base.slot L o ho (I.ok.frf L hL) hL λz=>I.ok.exfs L z hL
   exact⟨hk,⟨L,_,hf,hn,e,hd⟩,ih (λb hb=>hs b (by unfold frs;rw[filterMap_cons,hf];exact mem_cons_of_mem _ hb)) hr⟩
 exact all X.outer (λ_ hb=>hb) I.ok.funs
theorem Inv.stack (I:Inv X pins Y H s):s.heap.FunFrames X.base X.stack:=by
 rcases I.ok.stk with e | ⟨e,hf⟩
 .rw [e];exact I.funs
 .rw [e]
  obtain⟨m,hn,_⟩:=I.loc
  refine .cons (by rw[I.ok.kind];decide) hf hn ?_ I.funs
  exact Heap.get?_none_of_le (le_trans I.ok.bsz I.ok.above)
theorem Inv.stkSub (I:Inv X pins Y H s):∀b∈frs X.stack,b∈X.env.locals::X.fs:=λb hb=>by
 rcases I.ok.stk with e | ⟨e,hf⟩
 .rw [e]at hb;exact mem_cons_of_mem _ hb
 .rw [e]at hb
  unfold frs at hb
  rw[filterMap_cons,hf]at hb
  exact hb
theorem Inv.stkFree (I:Inv X pins Y H s):∀b∈frs X.stack,H b=none:=λb hb=>by
 rcases mem_cons.mp (I.stkSub b hb) with e |hb
 .rw [e];exact I.free
 .obtain ⟨_,o,ho,_⟩:=I.ok.funs.mem hb
  exact I.base.free b o ho (I.ok.frf b hb) λz=>I.ok.exfs b z hb
theorem Inv.step {g':Array GenState}{t':Nat}{d':Drawn}{ch:List Addr}(I:Inv X pins Y H s)
  (hch:∀b∈ch,(b∈X.ex∨X.s₀.heap.objs.size<=b)/\b≠X.env.locals/\(∀x c,X.env.cells.lookup x=some c->c≠b)/\∀p∈X.pn++pins,p.1≠b)
  (keep:∀b o,b≠X.env.locals->b∉X.fs->b∉ch->s.heap.get? b=some o->H b=none->h'.get? b=some o)
  (slot:∀b o,b≠X.env.locals->b∈X.fs->b∉ch->s.heap.get? b=some o->H b=none->∃sl,h'.get? b=some {o with slots:=sl}) (free:∀b o,b∉ch->s.heap.get? b=some o->H b=none->H' b=none)
  (there:∀b o,b∉ch->s.heap.get? b=some o->∃o',h'.get? b=some o')
  (tups:∀b xs,H b=some (.tup xs)->H' b=some (.tup xs)) (frzs:∀b o u,H b=some (.frz o u)->H' b=some (.frz o u)) (tbls:∀b ps,H b=some (.tbl ps)->∃more,H' b=some (.tbl (ps++more)))
  (ns:∀m,s.heap.Ns X.env.locals m->h'.Ns X.env.locals m) (hok:HOk X.prog X.w H' h') (hg:AllBare g'):
  Inv X pins Y H' {s with heap:=h',gens:=g',drawn:=d',toks:=t'}:=by
 have neL:∀b o,X.s₀.heap.get? b=some o->b≠X.env.locals:=λb o e=>ne_of_lt (lt_of_lt_of_le (lt_size e) I.ok.above)
 have neC:∀b o,X.s₀.heap.get? b=some o->b∉X.ex->b∉ch:=λb o e hx hb=>by
  rcases (hch b hb).1 with z |z
  .exact hx z
  .exact absurd (lt_of_lt_of_le (lt_size e) z) (lt_irrefl _)
 have cellK:∀x c,X.env.cells.lookup x=some c->∀v,s.heap.IsCell c v->h'.IsCell c v:=λx c e v ⟨o,ho,hd⟩=>by
  have nch:c∉ch:=λz=>(hch c z).2.2.1 x c e rfl
  by_cases hc:c∈X.fs
  .obtain ⟨sl,q⟩:=slot c o (I.cne x c e) hc nch ho (I.freeC x c e)
   exact⟨_,q,hd⟩
  .exact ⟨o,keep c o (I.cne x c e) hc nch ho (I.freeC x c e),hd⟩
 refine⟨I.ok,I.os,hg,⟨λb o e n hb hx=>?_,λb o e n hb hx=>?_,λb o e n hx=>?_,λb o e hx=>?_,λb xs e=>tups b xs (I.base.tups b xs e),λb o xs e=>frzs b o xs (I.base.frzs b o xs e),λb ps e=>?_⟩,?_,λx c e=>?_,?_,λx c e=>?_,λp hp=>?_,hok,I.len⟩
 .exact keep b o (neL b o e) hb (neC b o e hx) (I.base.keep b o e n hb hx) (I.base.free b o e n hx)
 .obtain ⟨sl,e1⟩:=I.base.slot b o e n hb hx
  obtain⟨sl',e2⟩:=slot b _ (neL b o e) hb (neC b o e hx) e1 (I.base.free b o e n hx)
  exact⟨sl',e2⟩
 .obtain ⟨o',e1⟩:=I.base.there b o e hx
  exact free b o' (neC b o e hx) e1 (I.base.free b o e n hx)
 .obtain ⟨o',e1⟩:=I.base.there b o e hx
  exact there b o' (neC b o e hx) e1
 .obtain ⟨m1,e1⟩:=I.base.tbls b ps e
  obtain⟨m2,e2⟩:=tbls b _ e1
  exact⟨m1++m2,by rw[e2,Array.append_assoc]⟩
 .obtain ⟨m,hn,hl⟩:=I.loc
  refine⟨m,ns m hn,λi x v e1 e2 e3=>?_⟩
  obtain⟨u,r,l⟩:=hl i x v e1 e2 e3
  refine⟨u,r,?_⟩
  rcases l with l | ⟨k,c,e,z⟩
  .exact .inl l
  .exact .inr ⟨k,c,e,cellK x c e _ z⟩
 .obtain ⟨v,z⟩:=I.cell x c e
  exact⟨v,cellK x c e v z⟩
 .obtain ⟨m,⟨o,_,_,ho,_⟩,_⟩:=I.loc
  exact free _ o (λz=>(hch _ z).2.1 rfl) ho I.free
 .obtain ⟨v,o,ho,hd⟩:=I.cell x c e
  exact free c o (λz=>(hch c z).2.2.1 x c e rfl) ho (I.freeC x c e)
 .obtain ⟨e,n,ne,nf,d⟩:=I.pin p hp
  have nch:p.1∉ch:=λz=>(hch p.1 z).2.2.2 p hp rfl
  exact⟨keep p.1 p.2 ne nf nch e n,free p.1 p.2 nch e n,ne,nf,d⟩
theorem Inv.un {t':Nat}(I:Inv X pins Y H s)(u:Un X.fs [] H H' s.heap h')(hok:HOk X.prog X.w H' h'):Inv X pins Y H' {s with heap:=h',toks:=t'}:=by
 obtain⟨m,⟨o,es,ep,ho,r⟩,_⟩:=id I.loc
 obtain⟨sl,hL⟩:=u.any ho I.free (by simp)
 exact I.step (g':=s.gens) (d':=s.drawn) (ch:=[]) (λ_ z=>nomatch z) (λb o _ hb _ e n=>u.keep b o e n hb (by simp)) (λb o _ hb _ e n=>u.slot b o e n hb (by simp)) (λb o _ e n=>u.free b o e n (by simp)) (λb o _ e=>u.there b o e (by simp)) u.tups u.frzs u.tbls (λm' hm=>by
  obtain⟨o',es',ep',ho',r'⟩:=hm
  rw[ho]at ho';cases ho'
  exact⟨_,es',ep',hL,r'⟩) hok I.bare
theorem Inv.call {g':Array GenState}{t':Nat}{d':Drawn}{ch:List Addr}(I:Inv X pins Y H s)(u:Un (frs X.stack) ch H H' s.heap h')(hok:HOk X.prog X.w H' h')(hg:AllBare g')
  (hch:∀b∈ch,(b∈X.ex∨X.s₀.heap.objs.size<=b)/\b≠X.env.locals/\(∀x c,X.env.cells.lookup x=some c->c≠b)/\∀p∈X.pn++pins,p.1≠b):
  Inv X pins Y H' {s with heap:=h',gens:=g',drawn:=d',toks:=t'}:=by
 obtain⟨m,⟨o,es,ep,ho,r⟩,_⟩:=id I.loc
 obtain⟨sl,hL⟩:=u.any ho I.free λz=>(hch _ z).2.1 rfl
 exact I.step hch (λb o hL hb hc e n=>u.keep b o e n (λz=>(mem_cons.mp (I.stkSub b z)).elim hL hb) hc) (λb o _ _ hc e n=>u.any e n hc) (λb o hc e n=>u.free b o e n hc) (λb o hc e=>u.there b o e hc) u.tups u.frzs u.tbls (λm' hm=>by
  obtain⟨o',es',ep',ho',r'⟩:=hm
  rw[ho]at ho';cases ho'
  exact⟨_,es',ep',hL,r'⟩) hok hg
theorem Inv.turned {t':Nat}{it:Addr}(I:Inv X pins Y H s)(k:∀b o,b≠it->s.heap.get? b=some o->h'.get? b=some o)(hn:H it=none)(hL:it≠X.env.locals)
  (h1:it∈X.ex∨X.s₀.heap.objs.size<=it) (h2:∀x c,X.env.cells.lookup x=some c->c≠it) (h3:∀p∈X.pn++pins,p.1≠it):Inv X pins Y H {s with heap:=h',toks:=t'}:=by
 have nit:∀b u,H b=some u->b≠it:=λb u e z=>by rw[z,hn]at e;cases e
 refine I.step (g':=s.gens) (d':=s.drawn) (ch:=[it]) (λb hb=>?_) (λb o _ _ hc e _=>k b o (λz=>hc (by simp[z])) e) (λb o _ _ hc e _=>⟨o.slots,k b o (λz=>hc (by simp[z])) e⟩) (λ_ _ _ _ n=>n)
  (λb o hc e=>⟨o,k b o (λz=>hc (by simp[z])) e⟩) (λ_ _ e=>e) (λ_ _ _ e=>e) (λb ps e=>⟨#[],by rw[e];simp⟩) (λm hm=>?_) (λb u e=>?_) I.bare
 .have e:b=it:=by simpa using hb
  subst e
  exact⟨h1,hL,h2,h3⟩
 .obtain ⟨o,es,ep,ho,r⟩:=hm
  exact⟨o,es,ep,k _ o (Ne.symm hL) ho,r⟩
 .refine (I.hok b u e).stay (λc v hc q=>k c v ?_ q) (λ_ q=>q) λ_ _ q _=>q
  rcases hc with z |z
  .rw [z];exact nit b u e
  .exact nit c _ z
theorem Inv.tok (I:Inv X pins Y H s)(t:Nat):Inv X pins Y H {s with toks:=t}:=I.un (h':=s.heap) (t':=t) Un.refl I.hok
theorem Inv.kept {t':Nat}(I:Inv X pins Y H s)(k:∀b u,s.heap.get? b=some u->h'.get? b=some u):Inv X pins Y H {s with heap:=h',toks:=t'}:=I.un (Un.kept k) (I.hok.kept k)
theorem Inv.laid {a:Addr}{o:HO}{t':Nat}(I:Inv X pins Y H s)(k:∀b u,s.heap.get? b=some u->h'.get? b=some u)(hp:s.heap.objs.size<=a)(new:ObjOk X.prog X.w (upd H a o) h' a o):
  Inv X pins Y (upd H a o) {s with heap:=h',toks:=t'}:=I.un (Un.laid k hp (I.hok.fresh hp)) (I.hok.laid k hp new)
theorem Inv.write {x e:Addr}{o:HO}{t':Nat}(I:Inv X pins Y H s)(mu:Mut (H x))(he:e=x∨H e=some (.own x))(k:∀b u,b≠e->s.heap.get? b=some u->h'.get? b=some u)(heo:∃u,h'.get? e=some u)
  (new:ObjOk X.prog X.w (upd H x o) h' x o):Inv X pins Y (upd H x o) {s with heap:=h',toks:=t'}:=I.un (Un.write mu he k heo) (I.hok.write mu he k heo new)
theorem Inv.pins_of {pins':List (Addr×Obj)}(I:Inv X pins Y H s)(h:∀p∈pins',s.heap.get? p.1=some p.2/\H p.1=none/\p.1≠X.env.locals/\p.1∉X.fs/\∀v,p.2.data≠.cell v):Inv X pins' Y H s:=
 ⟨I.ok,I.os,I.bare,I.base,I.loc,I.cell,I.free,I.freeC,λp hp=>(mem_append.mp hp).elim (λz=>I.pin p (mem_append_left _ z)) (h p),I.hok,I.len⟩
theorem nodup_ix {N:List Str}(hN:N.Nodup){i j:Nat}{x:Str}(a:N[i]?=some x)(b:N[j]?=some x):i=j:=by
 obtain⟨h1,e1⟩:=List.getElem?_eq_some_iff.mp a
 obtain⟨h2,e2⟩:=List.getElem?_eq_some_iff.mp b
 exact (List.getElem_inj hN).mp (e1.trans e2.symm)
theorem store_ok2 {M:Model}{A:Around}{E:Value->Shared->Prop}{i:Nat}{x:Str}{v:V}{u:Value}{Q:Unit->Shared->Prop}(I:Inv X pins Y H s)(hN:X.N.Nodup)(hi:X.N[i]?=some x)(hx:Loc X.env.scope x)(r:RelV v u)
  (h:∀s',Inv X pins (Y.set i (some v)) H s'->(∃a,Heap.SameBut a s.heap s'.heap/\(a=X.env.locals∨X.env.cells.lookup x=some a))->Q () s') (hf:X.fn x=true∨X.env.scope.names.lookup x=some .local:=by first |exact .inl rfl |exact .inr rfl |assumption):wpAny M A (storeName X.env x u) Q E s:=by
 obtain⟨m,hn,hl⟩:=id I.loc
 have hcls:(X.env.scope.kind == .class || (X.env.scope.kind == .module && X.env.locals != X.env.globals))=false:=by rw[I.ok.kind];rfl
 have hiσ:i<Y.length:=by rw[I.len];exact (List.getElem?_eq_some_iff.mp hi).1
 have cne:=I.cne
 have tracked:∀{a:Addr} {h':Heap},(∃o,s.heap.get? a=some o/\H a=none)->Heap.SameBut a s.heap h'->HOk X.prog X.w H h':=λ{a h'} ha hs b ob e=>by
  obtain⟨_,_,hfree⟩:=ha
  refine (I.hok b ob e).stay (λc w' hc q=>(hs.2 c ?_).trans q) (λ_ q=>q) λ_ _ q _=>q
  rintro rfl
  rcases hc with rfl |hc
  .rw [hfree]at e;cases e
  .rw [hfree]at hc;cases hc
 rcases hx with hk |hk
 .refine wpAny_storeName_local hk hn (λh' hn' hs=>?_) hcls
  obtain⟨oL,_,_,hoL,_⟩:=id hn
  refine h _ ⟨I.ok,I.os,I.bare,⟨λb o e n hb hx=>?_,λb o e n hb hx=>?_,I.base.free,λb o e hx=>?_,I.base.tups,I.base.frzs,I.base.tbls⟩,⟨_,hn',λj y v' e1 e2 e3=>?_⟩,λy c e=>?_,I.free,I.freeC,λp hp=>?_,tracked ⟨oL,hoL,I.free⟩ hs,by simpa using I.len⟩ ⟨_,hs,.inl rfl⟩
  .exact (hs.2 b (ne_of_lt (lt_of_lt_of_le (lt_size e) I.ok.above))).trans (I.base.keep b o e n hb hx)
  .obtain ⟨sl,e1⟩:=I.base.slot b o e n hb hx
   exact⟨sl,(hs.2 b (ne_of_lt (lt_of_lt_of_le (lt_size e) I.ok.above))).trans e1⟩
  .obtain ⟨o',e1⟩:=I.base.there b o e hx
   exact⟨o',(hs.2 b (ne_of_lt (lt_of_lt_of_le (lt_size e) I.ok.above))).trans e1⟩
  .by_cases hj:j=i
   .subst hj
    rw[hi]at e1;cases e1
    rw[getElem?_set_self hiσ]at e2
    cases e2
    exact⟨u,r,.inl ⟨hk,by simp⟩⟩
   .rw [getElem?_set_ne (Ne.symm hj)]at e2
    obtain⟨u',r',q⟩:=hl j y v' e1 e2 e3
    refine⟨u',r',?_⟩
    rcases q with⟨k,e⟩ | ⟨k,c,e,z⟩
    .refine .inl ⟨k,?_⟩
     have:y≠x:=λe=>hj (nodup_ix hN e1 (e▸hi))
     simp[this,e]
    .exact .inr ⟨k,c,e,z.sameBut hs (cne y c e)⟩
  .obtain ⟨w',z⟩:=I.cell y c e
   exact⟨w',z.sameBut hs (cne y c e)⟩
  .obtain ⟨e,n,ne,nf,d⟩:=I.pin p hp
   exact⟨(hs.2 p.1 ne).trans e,n,ne,nf,d⟩
 .have hfn:X.fn x=true:=by
   rcases hf with z |z
   .exact z
   .rw [z]at hk;cases hk
  obtain⟨c,hc⟩:=I.ok.has x (.inl hk)
  obtain⟨w',z⟩:=I.cell x c hc
  refine wpAny_storeName_cell I.ok.kind hk hc z (λh' hc' hs=>?_)
  obtain⟨oc,hoc,hocd⟩:=id z
  refine h {s with heap:=h'} ⟨I.ok,I.os,I.bare,⟨λb o e n hb hx=>?_,λb o e n hb hx=>?_,I.base.free,λb o e hx=>?_,I.base.tups,I.base.frzs,I.base.tbls⟩,⟨m,hn.sameBut hs (Ne.symm (cne x c hc)),λj y v' e1 e2 e3=>?_⟩,λy c' e=>?_,I.free,I.freeC,λp hp=>?_,tracked ⟨oc,hoc,I.freeC x c hc⟩ hs,by simpa using I.len⟩ ⟨c,hs,.inr hc⟩
  .exact (hs.2 b (ne_of_lt (lt_of_lt_of_le (lt_size e) (I.ok.cab x c hfn hc)))).trans (I.base.keep b o e n hb hx)
  .obtain ⟨sl,e1⟩:=I.base.slot b o e n hb hx
   exact⟨sl,(hs.2 b (ne_of_lt (lt_of_lt_of_le (lt_size e) (I.ok.cab x c hfn hc)))).trans e1⟩
  .obtain ⟨o',e1⟩:=I.base.there b o e hx
   exact⟨o',(hs.2 b (ne_of_lt (lt_of_lt_of_le (lt_size e) (I.ok.cab x c hfn hc)))).trans e1⟩
  .by_cases hj:j=i
   .subst hj
    rw[hi]at e1;cases e1
    rw[getElem?_set_self hiσ]at e2
    cases e2
    exact⟨u,r,.inr ⟨.inl hk,c,hc,hc'⟩⟩
   .rw [getElem?_set_ne (Ne.symm hj)]at e2
    obtain⟨u',r',q⟩:=hl j y v' e1 e2 e3
    refine⟨u',r',?_⟩
    rcases q with q | ⟨k,c',e,z'⟩
    .exact .inl q
    .refine .inr ⟨k,c',e,z'.sameBut hs ?_⟩
     rintro rfl
     exact hj (nodup_ix hN e1 (I.ok.inj _ _ _ e hc▸hi))
  .by_cases hcc:c'=c
   .subst hcc;exact⟨_,hc'⟩
   .obtain ⟨w2,z2⟩:=I.cell y c' e
    exact⟨w2,z2.sameBut hs hcc⟩
  .obtain ⟨e,n,ne,nf,d⟩:=I.pin p hp
   refine⟨(hs.2 p.1 ?_).trans e,n,ne,nf,d⟩
   intro q
   rw[q,hoc]at e
   have q':oc=p.2:=Option.some.inj e
   exact d w' (by rw[<- q'];exact hocd)
theorem store_ok {M:Model}{A:Around}{E:Value->Shared->Prop}{i:Nat}{x:Str}{v:V}{u:Value}{Q:Unit->Shared->Prop}(I:Inv X pins Y H s)(hN:X.N.Nodup)(hi:X.N[i]?=some x)(hx:Loc X.env.scope x)(r:RelV v u)
  (h:∀s',Inv X pins (Y.set i (some v)) H s'->Q () s') (hf:X.fn x=true∨X.env.scope.names.lookup x=some .local:=by first |exact .inl rfl |exact .inr rfl |assumption):wpAny M A (storeName X.env x u) Q E s:=
 store_ok2 I hN hi hx r (λs' I' _=>h s' I') hf
theorem Inv.call' {s':Shared}{ch:List Addr}(I:Inv X pins Y H s)(ho:s'.os=s.os)(u:Un (frs X.stack) ch H H' s.heap s'.heap)(hok:HOk X.prog X.w H' s'.heap)(hg:AllBare s'.gens)
  (hch:∀b∈ch,(b∈X.ex∨X.s₀.heap.objs.size<=b)/\b≠X.env.locals/\(∀x c,X.env.cells.lookup x=some c->c≠b)/\∀p∈X.pn++pins,p.1≠b):Inv X pins Y H' s':=by
 obtain⟨h',g',d',t',o'⟩:=s'
 have e:o'=s.os:=ho
 subst e
 exact I.call (g':=g') (t':=t') (d':=d') u hok hg hch
end
abbrev XK:=Value->Option Addr->Hp->Prop
abbrev St:=List (Option V)
abbrev VK:=V->Hp->Prop
abbrev TE:=St->Hp->VK->Prop
abbrev TT:=St->Hp->(Bool->Hp->Prop)->Prop
abbrev TA:=St->Hp->(List V->Hp->Prop)->Prop
structure Ends where
 nx:St->Hp->Prop
 rt:VK
 bk:St->Hp->Prop:=λ_ _=>False
 ct:St->Hp->Prop:=λ_ _=>False
abbrev TS:=Ends->St->Hp->Prop
def EP (X:Cx)(pins:List (Addr×Obj))(Y:St)(Q:VK)(u:Value)(s':Shared):Prop:=∃v H',Inv X pins Y H' s'/\RelV v u/\Q v H'
def TP (X:Cx)(pins:List (Addr×Obj))(Y:St)(Q:Bool->Hp->Prop)(b:Bool)(s':Shared):Prop:=∃H',Inv X pins Y H' s'/\Q b H'
def AP (X:Cx)(pins:List (Addr×Obj))(Y:St)(Q:List V->Hp->Prop)(us:List Value)(s':Shared):Prop:=∃vs H',Inv X pins Y H' s'/\Vals vs us/\Q vs H'
def SP (X:Cx)(pins:List (Addr×Obj))(D:Ends)(f:Flow)(s':Shared):Prop:=
 match f with
 | .next=>∃Y' H',Inv X pins Y' H' s'/\D.nx Y' H'
 | .brk=>∃Y' H',Inv X pins Y' H' s'/\D.bk Y' H'
 | .cont=>∃Y' H',Inv X pins Y' H' s'/\D.ct Y' H'
 | .ret u=>∃v Y' H',Inv X pins Y' H' s'/\RelV v u/\D.rt v H'
def PE (X:Cx)(e:Expr)(t:TE):Prop:=
 ∀(pins:List (Addr×Obj)) (s:Shared) (Y:St) (H:Hp) (Q:VK),Inv X pins Y H s->t Y H Q->wpAny (model X.prog X.w) X.A (eval e X.env) (EP X pins Y Q) X.xe s
def PT (X:Cx)(e:Expr)(t:TT):Prop:=
 ∀(pins:List (Addr×Obj)) (s:Shared) (Y:St) (H:Hp) (Q:Bool->Hp->Prop),Inv X pins Y H s->t Y H Q->wpAny (model X.prog X.w) X.A (isTrue e X.env (eval e X.env)) (TP X pins Y Q) X.xe s
def PW (X:Cx)(e:Expr)(t:TT):Prop:=
 ∀(whole:Sem Value) (pins:List (Addr×Obj)) (s:Shared) (Y:St) (H:Hp) (Q:Bool->Hp->Prop),Inv X pins Y H s->t Y H Q->wpAny (model X.prog X.w) X.A (isTrue e X.env whole) (TP X pins Y Q) X.xe s
theorem PW.pt {X:Cx}{e:Expr}{t:TT}(h:PW X e t):PT X e t:=h _
def PA (X:Cx)(es:List Expr)(t:TA):Prop:=
 ∀(pos:Pos) (pins:List (Addr×Obj)) (s:Shared) (Y:St) (H:Hp) (Q:List V->Hp->Prop),Inv X pins Y H s->t Y H Q->wpAny (model X.prog X.w) X.A (spliced (backTo pos (starEach es X.env))) (AP X pins Y Q) X.xe s
def PS (X:Cx)(st:Stmt)(t:TS):Prop:=
 ∀(pins:List (Addr×Obj)) (s:Shared) (Y:St) (H:Hp) (D:Ends),Inv X pins Y H s->t D Y H->wpAny (model X.prog X.w) X.A (exec st X.env) (SP X pins D) X.xe s
def PSs (X:Cx)(st:List Stmt)(t:TS):Prop:=
 ∀(pins:List (Addr×Obj)) (s:Shared) (Y:St) (H:Hp) (D:Ends),Inv X pins Y H s->t D Y H->wpAny (model X.prog X.w) X.A (execs st X.env) (SP X pins D) X.xe s
theorem thn {α:Type}{t:Sem α}{Q Q':α->Shared->Prop}{M:Model}{A:Around}{E:Value->Shared->Prop}{s:Shared}(h:wpAny M A t Q E s)(hQ:∀a s,Q a s->Q' a s):wpAny M A t Q' E s:=wpAny_mono h hQ λ_ _ x=>x
section
variable {X:Cx}
def tVar (i:Nat):TE:=λY H Q=>∃v,Y[i]?=some (some v)/\Q v H
def tC (v:V):TE:=λ_ H Q=>Q v H
theorem pe_var {i:Nat}{x:Str}{pos:Pos}(hN:X.N[i]?=some x)(hv:Vis X.env.scope x)(hd:(x==("__debug__":Str))=false:=by decide)(hcd:(x==("__classdict__":Str))=false:=by decide):PE X (.Name x pos) (tVar i):=by
 intro pins s Y H Q I h
 obtain⟨v,e,h⟩:=h
 obtain⟨m,hn,hl⟩:=I.loc
 obtain⟨u,r,l⟩:=hl i x v hN e hv
 have fin:EP X pins Y Q u s:=⟨v,H,I,r,h⟩
 rcases l with⟨hk,hm⟩ | ⟨hk,c,hc,hcell⟩
 .exact wpAny_Name (wpAny_loadName_local I.ok.kind hk hn hm fin) hd
 .rcases hk with hk |hk
  .exact wpAny_Name (wpAny_loadName_cell I.ok.kind hk hc hcell fin) hd
  .exact wpAny_Name (wpAny_loadName_free I.ok.kind hk hc hcell fin hcd) hd
theorem pe_int {i j pos}:PE X (.Constant (.int i) j pos) (tC (.int i)):=λ_ _ _ H _ I h=>wpAny_Constant_int ⟨.int i,H,I.tok _,⟨_,rfl⟩,h⟩
theorem pe_bl {b j pos}:PE X (.Constant (.bool b) j pos) (tC (.bl b)):=λ_ _ _ H _ I h=>Constant_bool ⟨.bl b,H,I,rfl,h⟩
theorem pe_str {x j pos}:PE X (.Constant (.str x) j pos) (tC (.str x)):=λ_ _ _ H _ I h=>Calls.Constant_str ⟨.str x,H,I.tok _,⟨_,rfl⟩,h⟩
def Gl (X:Cx)(x:Str):Prop:=X.env.kindOf x=some .globalImplicit
theorem ld_glob {E:Value->Shared->Prop}{pins:List (Addr×Obj)}{s:Shared}{Y:St}{H:Hp}{x:Str}{u:Value}{pos:Pos}{Q:Value->Shared->Prop}(I:Inv X pins Y H s)(hg:Gl X x)(hm:X.mg x=some u)(h:Q u s)
  (hd:(x==("__debug__":Str))=false:=by decide):wpAny (model X.prog X.w) X.A (eval (.Name x pos) X.env) Q E s:=
 Calls.Name_function_global I.ok.kind hg (Calls.loadGlobal_global (by rw[I.ok.glob];exact I.mod.glob.keeps I.bk) hm h) hd
theorem ld_blt {E:Value->Shared->Prop}{pins:List (Addr×Obj)}{s:Shared}{Y:St}{H:Hp}{x:Str}{u:Value}{pos:Pos}{Q:Value->Shared->Prop}(I:Inv X pins Y H s)(hg:Gl X x)(hm:X.mg x=none)(hv:bootBuiltins x=some u)(h:Q u s)
  (hn:x ≠ "__name__":=by decide) (hd:(x==("__debug__":Str))=false:=by decide):wpAny (model X.prog X.w) X.A (eval (.Name x pos) X.env) Q E s:=by
 obtain⟨mb,h1,h2⟩:=I.mod.blt
 exact Calls.Name_function_global I.ok.kind hg (Calls.loadGlobal_builtin (by rw[I.ok.glob];exact I.mod.glob.keeps I.bk) hm (by rw[I.ok.blt];exact h1.keeps I.bk) ((h2 x hn).trans hv) h) hd
theorem pe_glob {x:Str}{v:V}{u:Value}{pos:Pos}(hg:Gl X x)(hm:X.mg x=some u)(r:RelV v u)(hd:(x==("__debug__":Str))=false:=by decide):PE X (.Name x pos) (tC v):=
 λ_ _ _ H _ I h=>ld_glob I hg hm ⟨v,H,I,r,h⟩ hd
theorem pe_bltn {x:Str}{v:V}{u:Value}{pos:Pos}(hg:Gl X x)(hm:X.mg x=none)(hv:bootBuiltins x=some u)(r:RelV v u)(hn:x ≠ "__name__":=by decide)(hd:(x==("__debug__":Str))=false:=by decide):PE X (.Name x pos) (tC v):=
 λ_ _ _ H _ I h=>ld_blt I hg hm hv ⟨v,H,I,r,h⟩ hn hd
variable {a b:Expr}{ta tb:TE}{pos:Pos}
def tB (t:TE):TT:=λY H Q=>t Y H λx H1=>∃c,x = .bl c/\Q c H1
theorem pt_val {e:Expr}{t:TE}(h:PE X e t)(he:∀whole,isTrue e X.env whole=(do let v <- whole;standAt e.pos;holding [v] (truthy v)):=by intro _;rfl):PT X e (tB t):=by
 intro pins s Y H Q I hw
 refine isTrue_plain (thn (h pins s Y H _ I hw) λv s1 ⟨x,H1,I1,r1,q1⟩=>?_) (he _)
 obtain⟨d,rfl,q⟩:=q1
 cases r1
 exact wpAny_truthy_bool ⟨H1,I1,q⟩
variable {tA tB':TT}{rest:List Expr}
def tAnd (t u:TT):TT:=λY H Q=>t Y H λc H1=>if c=true then u Y H1 Q else Q false H1
def tOr (t u:TT):TT:=λY H Q=>t Y H λc H1=>if c=true then Q true H1 else u Y H1 Q
def tNot (t:TT):TT:=λY H Q=>t Y H λc H1=>Q (!c) H1
theorem pw_and1 (ha:PT X a tA):PW X (.BoolOp .And [a] pos) tA:=by
 intro wh pins s Y H Q I h
 refine isTrue_and (thn (ha pins s Y H Q I h) λc s1 e=>?_)
 cases c with
 |true=>exact isTrue_and_nil e
 |false=>exact e
theorem pw_or1 (ha:PT X a tA):PW X (.BoolOp .Or [a] pos) tA:=by
 intro wh pins s Y H Q I h
 refine isTrue_or (thn (ha pins s Y H Q I h) λc s1 e=>?_)
 cases c with
 |false=>exact isTrue_or_nil e
 |true=>exact e
theorem pw_and (ha:PT X a tA)(hb:PW X (.BoolOp .And (b::rest) pos) tB'):PW X (.BoolOp .And (a::b::rest) pos) (tAnd tA tB'):=by
 intro wh pins s Y H Q I h
 refine isTrue_and (thn (ha pins s Y H _ I h) λc s1 ⟨H1,I1,q1⟩=>?_)
 cases c with
 |true=>exact hb wh pins s1 Y H1 Q I1 q1
 |false=>exact⟨H1,I1,q1⟩
theorem pw_or (ha:PT X a tA)(hb:PW X (.BoolOp .Or (b::rest) pos) tB'):PW X (.BoolOp .Or (a::b::rest) pos) (tOr tA tB'):=by
 intro wh pins s Y H Q I h
 refine isTrue_or (thn (ha pins s Y H _ I h) λc s1 ⟨H1,I1,q1⟩=>?_)
 cases c with
 |true=>exact⟨H1,I1,q1⟩
 |false=>exact hb wh pins s1 Y H1 Q I1 q1
theorem pt_not (ha:PT X a tA):PT X (.UnaryOp .Not a pos) (tNot tA):=by
 intro pins s Y H Q I h
 exact isTrue_not (ha pins s Y H (λc H1=>Q (!c) H1) I h)
def tAndV (ta tb:TE):TE:=λY H Q=>ta Y H λx H1=>∃c,x = .bl c/\if c=true then tb Y H1 Q else Q (.bl false) H1
theorem pe_one {op}{t:TE}(h:PE X a t):PE X (.BoolOp op [a] pos) t:=λpins s Y H Q I hw=>BoolOp_one (h pins s Y H Q I hw)
theorem pe_and (ha:PE X a ta)(hb:PE X (.BoolOp .And (b::rest) pos) tb):PE X (.BoolOp .And (a::b::rest) pos) (tAndV ta tb):=by
 intro pins s Y H Q I h
 refine BoolOp_and (thn (ha pins s Y H _ I h) λv s1 ⟨x,H1,I1,r1,q1⟩=>?_)
 obtain⟨c,rfl,q1⟩:=q1
 cases r1
 refine wpAny_truthy_bool ?_
 cases c with
 |true=>exact hb pins s1 Y H1 Q I1 q1
 |false=>exact⟨.bl false,H1,I1,rfl,q1⟩
def tIf (t:TT)(ta tb:TE):TE:=λY H Q=>t Y H λc H1=>if c=true then ta Y H1 Q else tb Y H1 Q
theorem pe_ifExp {c:Expr}(hc:PT X c tA)(ha:PE X a ta)(hb:PE X b tb):PE X (.IfExp c a b pos) (tIf tA ta tb):=by
 intro pins s Y H Q I h
 refine wpAny_IfExp (thn (hc pins s Y H _ I h) λd s1 ⟨H1,I1,q1⟩=>?_)
 cases d with
 |true=>exact ha pins s1 Y H1 Q I1 q1
 |false=>exact hb pins s1 Y H1 Q I1 q1
end
def SqL (K:Frag)(H:Hp)(a:Addr)(xs:List V):Prop:=
 Rd H a (.lst xs)∨
  ∃(o:Obj) (its:Array Value) (n:Nat),K.lookup a=some o/\o.cls = .type "list"/\o.dict=none/\o.data = .seq its n/\its.size<=sizeLine/\Vals xs its.toList
def SqT (K:Frag)(H:Hp)(a:Addr)(xs:List V):Prop:=
 Rd H a (.tup xs)∨
  ∃(o:Obj) (its:Array Value) (n:Nat),K.lookup a=some o/\o.cls = .type "tuple"/\o.data = .seq its n/\its.size<=sizeLine/\Vals xs its.toList
def absV:Value->Option V
 | .none=>some .non
 | .bool b=>some (.bl b)
 | .int i _=>some (.int i)
 | .str x _=>some (.str x)
 | .bytes b _=>some (.byt b)
 | .float b _=>some (.flt b)
 | .ref a=>some (.ref a)
 | .type n=>some (.ty n)
 |_=>none
theorem RelV.abs {x:V}{u:Value}(r:RelV x u):absV u=some x:=by
 cases x with
 |non=>cases r;rfl
 |bl _=>cases r;rfl
 |int _=>obtain⟨t,rfl⟩:=r;rfl
 |str _=>obtain⟨t,rfl⟩:=r;rfl
 |byt _=>obtain⟨t,rfl⟩:=r;rfl
 |flt _=>obtain⟨t,rfl⟩:=r;rfl
 |ref _=>cases r;rfl
 |ty _=>cases r;rfl
theorem RelV.inj {x y:V}{u:Value}(r:RelV x u)(q:RelV y u):x=y:=Option.some.inj (r.abs.symm.trans q.abs)
theorem Vals.inj:∀{xs ys:List V} {us:List Value},Vals xs us->Vals ys us->xs=ys
 |_,_,_,.nil,.nil=>rfl
 |_,_,_,.cons r t,.cons r' t'=>by rw[r.inj r',Vals.inj t t']
section
variable {X:Cx}{pins:List (Addr×Obj)}{Y:St}{H:Hp}{s:Shared}{a:Addr}{xs ys:List V}
theorem SqL.of {K:Frag}(h:H a=some (.lst xs)):SqL K H a xs:=.inl (.inl h)
theorem SqT.of {K:Frag}(h:H a=some (.tup xs)):SqT K H a xs:=.inl (.inl h)
theorem Inv.list (I:Inv X pins Y H s)(h:SqL X.K H a xs):∃its:List Value,Vals xs its/\PlainL s.heap a its.toArray/\xs.length<=sizeLine:=by
 rcases h with h | ⟨o,its,n,hk,hc,hd,hs,hz,r⟩
 .obtain ⟨z,its,n,r,e⟩:=h.ok I.hok
  exact⟨its,r,⟨_,n,e,rfl,rfl,rfl⟩,z⟩
 .refine ⟨its.toList,r,⟨o,n,I.kIn a o hk,hc,hd,hs⟩,?_⟩
  have e:=r.length
  simp only[length_toList]at e
  lia
theorem Inv.tuple (I:Inv X pins Y H s)(h:SqT X.K H a xs):∃its:List Value,Vals xs its/\IsTup s.heap a its.toArray/\xs.length<=sizeLine:=by
 rcases h with h | ⟨o,its,n,hk,hc,hs,hz,r⟩
 .obtain ⟨z,its,r,p⟩:=h.ok I.hok
  exact⟨its,r,p,z⟩
 .refine ⟨its.toList,r,⟨o,I.kIn a o hk,hc,n,hs⟩,?_⟩
  have e:=r.length
  simp only[length_toList]at e
  lia
theorem Inv.list_inj (I:Inv X pins Y H s)(h:SqL X.K H a xs)(h':SqL X.K H a ys):xs=ys:=by
 obtain⟨its,r,⟨o,n,e,_,_,d⟩,_⟩:=I.list h
 obtain⟨its',r',⟨o',n',e',_,_,d'⟩,_⟩:=I.list h'
 rw[e]at e';cases e'
 rw[d]at d'
 injection d' with d1 _
 have:its=its':=by simpa using congrArg Array.toList d1
 subst this
 exact r.inj r'
theorem Inv.tuple_inj (I:Inv X pins Y H s)(h:SqT X.K H a xs)(h':SqT X.K H a ys):xs=ys:=by
 obtain⟨its,r,⟨o,e,_,n,d⟩,_⟩:=I.tuple h
 obtain⟨its',r',⟨o',e',_,n',d'⟩,_⟩:=I.tuple h'
 rw[e]at e';cases e'
 rw[d]at d'
 injection d' with d1 _
 have:its=its':=by simpa using congrArg Array.toList d1
 subst this
 exact r.inj r'
end
abbrev Cx.wish (X:Cx)(E:Value->Shared->Prop):Cx:={X with xe:=E}
abbrev Cx.nox (X:Cx):Cx:=X.wish λ_ _=>False
theorem Cx.Ok.wish {X:Cx}(ok:X.Ok)(E:Value->Shared->Prop):(X.wish E).Ok:=
 ⟨ok.mod,ok.kind,ok.glob,ok.blt,ok.above,ok.inj,ok.has,ok.cab,ok.hd,ok.frames,ok.stk,ok.exf,ok.bs,ok.bsz,ok.noex,ok.exfs,ok.funs,ok.frf⟩
theorem Cx.Ok.unwish {X:Cx}{E:Value->Shared->Prop}(ok:(X.wish E).Ok):X.Ok:=
 ⟨ok.mod,ok.kind,ok.glob,ok.blt,ok.above,ok.inj,ok.has,ok.cab,ok.hd,ok.frames,ok.stk,ok.exf,ok.bs,ok.bsz,ok.noex,ok.exfs,ok.funs,ok.frf⟩
section
variable {X:Cx}{pins:List (Addr×Obj)}{Y:St}{H:Hp}{s:Shared}{E:Value->Shared->Prop}
theorem Inv.wish (I:Inv X pins Y H s)(E:Value->Shared->Prop):Inv (X.wish E) pins Y H s:=⟨I.ok.wish E,I.os,I.bare,I.base,I.loc,I.cell,I.free,I.freeC,I.pin,I.hok,I.len⟩
theorem Inv.unwish (I:Inv (X.wish E) pins Y H s):Inv X pins Y H s:=⟨I.ok.unwish,I.os,I.bare,I.base,I.loc,I.cell,I.free,I.freeC,I.pin,I.hok,I.len⟩
theorem SP.unwish {D:Ends}{f:Flow}{s':Shared}(h:SP (X.wish E) pins D f s'):SP X pins D f s':=by
 cases f with
 |next=>obtain⟨Y',H',I,q⟩:=h;exact⟨Y',H',I.unwish,q⟩
 |brk=>obtain⟨Y',H',I,q⟩:=h;exact⟨Y',H',I.unwish,q⟩
 |cont=>obtain⟨Y',H',I,q⟩:=h;exact⟨Y',H',I.unwish,q⟩
 |ret u=>obtain⟨v,Y',H',I,r,q⟩:=h;exact⟨v,Y',H',I.unwish,r,q⟩
theorem PE.nox {e:Expr}{t:TE}(h:PE X.nox e t):PE X e t:=λpins s Y H Q I hw=>
 wpAny_mono (h pins s Y H Q (I.wish _) hw) (λ_ _ ⟨v,H',I',r,q⟩=>⟨v,H',I'.unwish,r,q⟩) λ_ _ z=>False.elim z
theorem PT.nox {e:Expr}{t:TT}(h:PT X.nox e t):PT X e t:=λpins s Y H Q I hw=>
 wpAny_mono (h pins s Y H Q (I.wish _) hw) (λ_ _ ⟨H',I',q⟩=>⟨H',I'.unwish,q⟩) λ_ _ z=>False.elim z
theorem PSs.nox {st:List Stmt}{t:TS}(h:PSs X.nox st t):PSs X st t:=λpins s Y H D I hw=>
 wpAny_mono (h pins s Y H D (I.wish _) hw) (λ_ _ q=>q.unwish) λ_ _ z=>False.elim z
end
section
variable {X:Cx}{st:Stmt}{rest:List Stmt}{t u:TS}{e:Expr}{te:TE}{pos:Pos}
def tNext:TS:=λD Y H=>D.nx Y H
def tSeq (t u:TS):TS:=λD Y H=>t {D with nx:=u D} Y H
theorem pss_nil:PSs X [] tNext:=λ_ _ Y H _ I h=>wpAny_execs_nil ⟨Y,H,I,h⟩
theorem pss_cons (h1:PS X st t)(h2:PSs X rest u):PSs X (st::rest) (tSeq t u):=by
 intro pins s Y H D I h
 refine wpAny_execs_cons (thn (h1 pins s Y H {D with nx:=u D} I h) λf s1 q=>?_)
 cases f with
 |next=>
  obtain⟨Y',H',I',q⟩:=q
  exact h2 pins s1 Y' H' D I' q
 |ret v=>exact q
 |brk=>exact q
 |cont=>exact q
theorem pss_one (h1:PS X st t):PSs X [st] t:=by
 intro pins s Y H D I h
 refine wpAny_execs_cons (thn (h1 pins s Y H D I h) λf s1 q=>?_)
 cases f with
 |next=>exact wpAny_execs_nil q
 |ret v=>exact q
 |brk=>exact q
 |cont=>exact q
theorem Inv.quiet {pins:List (Addr×Obj)}{Y:St}{H:Hp}{s:Shared}(I:Inv X pins Y H s):interactive X.env=false:=by simp[interactive,I.ok.kind]
def tDrop (te:TE):TS:=λD Y H=>te Y H λ_ H1=>D.nx Y H1
theorem ps_expr (he:PE X e te)(hs:swapsWith e none pos.line X.env=pure false:=by rfl):PS X (.Expr e pos) (tDrop te):=by
 intro pins s Y H D I h
 exact wpAny_Expr_any (thn (he pins s Y H _ I h) λv s1 ⟨x,H1,I1,r1,q1⟩=>⟨Y,H1,I1,q1⟩) I.quiet hs
def tRet (te:TE):TS:=λD Y H=>te Y H D.rt
theorem ps_ret (he:PE X e te):PS X (.Return (some e) pos) (tRet te):=by
 intro pins s Y H D I h
 exact wpAny_Return_some (thn (he pins s Y H _ I h) λv s1 ⟨x,H1,I1,r1,q1⟩=>⟨x,Y,H1,I1,r1,q1⟩)
def tIfS (c:TT)(t u:TS):TS:=λD Y H=>c Y H λb H1=>if b=true then t D Y H1 else u D Y H1
theorem ps_if {c:Expr}{a b:List Stmt}{tc:TT}(hc:PT X c tc)(ha:PSs X a t)(hb:PSs X b u):PS X (.If c a b pos) (tIfS tc t u):=by
 intro pins s Y H D I h
 refine wpAny_If (thn (hc pins s Y H _ I h) λd s1 ⟨H1,I1,q1⟩=>?_)
 cases d with
 |true=>exact ha pins s1 Y H1 D I1 q1
 |false=>exact hb pins s1 Y H1 D I1 q1
end
abbrev TG:=V->St->Hp->(St->Hp->Prop)->Prop
abbrev TGs:=List V->St->Hp->(St->Hp->Prop)->Prop
def PG (X:Cx)(target:Expr)(t:TG):Prop:=
 ∀(pins:List (Addr×Obj)) (s:Shared) (Y:St) (H:Hp) (v:V) (u:Value) (Q:St->Hp->Prop),Inv X pins Y H s->RelV v u->t v Y H Q->
  wpAny (model X.prog X.w) X.A (assign target X.env u) (λ_ s'=>∃Y' H',Inv X pins Y' H' s'/\Q Y' H') X.xe s
def PGs (X:Cx)(ts:List Expr)(t:TGs):Prop:=
 ∀(pins:List (Addr×Obj)) (s:Shared) (Y:St) (H:Hp) (vs:List V) (us:List Value) (Q:St->Hp->Prop),Inv X pins Y H s->Vals vs us->t vs Y H Q->
  wpAny (model X.prog X.w) X.A (assignInOrder ((assignEach ts X.env).map (·.2)) us) (λ_ s'=>∃Y' H',Inv X pins Y' H' s'/\Q Y' H') X.xe s
abbrev TSet:=V->V->V->Hp->(Hp->Prop)->Prop
def PSet (X:Cx)(t:TSet):Prop:=
 ∀(pins:List (Addr×Obj)) (s:Shared) (Y:St) (H:Hp) (o i v:V) (ov iv u:Value) (Q:Hp->Prop),Inv X pins Y H s->RelV o ov->RelV i iv->RelV v u->t o i v H Q->
  wpAny (model X.prog X.w) X.A (setItem ov iv u) (λ_ s'=>∃H',Inv X pins Y H' s'/\Q H') X.xe s
section
variable {X:Cx}{pos:Pos}
def gName (i:Nat):TG:=λv Y H Q=>Q (Y.set i (some v)) H
theorem pg_name {i:Nat}{x:Str}(hN:X.N.Nodup)(hi:X.N[i]?=some x)(hx:Loc X.env.scope x)(hf:X.fn x=true∨X.env.scope.names.lookup x=some .local:=by first |exact .inl rfl |exact .inr rfl |assumption):PG X (.Name x pos) (gName i):=by
 intro pins s Y H v u Q I r h
 exact wpAny_assign_Name (store_ok I hN hi hx r (λs' I'=>⟨_,H,I',h⟩) hf)
def gSub (to ti:TE)(t:TSet):TG:=λv Y H Q=>to Y H λo H1=>ti Y H1 λi H2=>t o i v H2 λH3=>Q Y H3
theorem pg_sub {o i:Expr}{to ti:TE}{t:TSet}(ho:PE X o to)(hi:PE X i ti)(hs:PSet X t)
  (ha:∀v,assign (.Subscript o i pos) X.env v=(do
   let ov <- holding [v] (eval o X.env)
   let iv <- holding [v,ov] (eval i X.env)
   standAt pos
   holding [v,ov,iv] (setItem ov iv v)
   release [v,ov,iv] []):=by intro _;rfl):PG X (.Subscript o i pos) (gSub to ti t):=by
 intro pins s Y H v u Q I r h
 refine wpAny_bind (wpAny_holding (thn (ho pins s Y H _ I h) λov s1 ⟨x,H1,I1,r1,q1⟩=>?_))
 refine wpAny_bind (wpAny_holding (thn (hi pins s1 Y H1 _ I1 q1) λiv s2 ⟨y,H2,I2,r2,q2⟩=>?_))
 refine wpAny_bind (wpAny_standAt (wpAny_bind (wpAny_holding (thn (hs pins s2 Y H2 x y v ov iv u _ I2 r1 r2 r q2) λ_ s3 ⟨H3,I3,q3⟩=>?_))))
 exact wpAny_release ⟨Y,H3,I3,q3⟩
def tAsg (te:TE)(g:TG):TS:=λD Y H=>te Y H λx H1=>g x Y H1 D.nx
theorem ps_asg {tg e:Expr}{te:TE}{g:TG}(he:PE X e te)(hg:PG X tg g)(hs:swapsWithSole [tg] e pos.line X.env=pure false:=by rfl)(hw:swappedStores [tg] e X.env=pure none:=by rfl)
  (h1:(assignEach [tg] X.env).map (·.2)=[assign tg X.env]:=by rfl):PS X (.Assign [tg] e pos) (tAsg te g):=by
 intro pins s Y H D I h
 refine wpAny_Assign_stores (thn (he pins s Y H _ I h) λv s1 ⟨x,H1,I1,r1,q1⟩=>?_) hs hw
 rw[h1]
 exact thn (hg pins s1 Y H1 x v _ I1 r1 q1) λ_ s2 q=>q
theorem ps_set {i:Nat}{x:Str}{e:Expr}{te:TE}{pos':Pos}(hN:X.N.Nodup)(hi:X.N[i]?=some x)(hx:Loc X.env.scope x)(he:PE X e te)(hs:swapsWith e (some (.Name x pos')) pos.line X.env=pure false:=by rfl)(hf:X.fn x=true∨X.env.scope.names.lookup x=some .local:=by first |exact .inl rfl |exact .inr rfl |assumption):
  PS X (.Assign [.Name x pos'] e pos) (tAsg te (gName i)):=by
 intro pins s Y H D I h
 refine wpAny_Assign_Name (thn (he pins s Y H _ I h) λv s1 ⟨y,H1,I1,r1,q1⟩=>?_) hs
 exact store_ok I1 hN hi hx r1 (λs2 I2=>⟨_,H1,I2,q1⟩) hf
end
section
variable {X:Cx}{pos:Pos}
end
structure It where
 go:Nat->Hp->Prop
 yld:Nat->Hp->V->Hp->Prop
 stop:Nat->Hp->Prop
def FpOk (X:Cx)(pins:List (Addr×Obj))(H:Hp)(b:Addr):Prop:=
 H b=none/\b≠X.env.locals/\b∉X.fs/\(b∈X.ex∨X.s₀.heap.objs.size<=b)/\(∀x c,X.env.cells.lookup x=some c->c≠b)/\∀p∈X.pn++pins,p.1≠b
theorem Inv.fpOk {X:Cx}{pins:List (Addr×Obj)}{Y:St}{H H':Hp}{s:Shared}{b:Addr}(I:Inv X pins Y H s)(hb:s.heap.objs.size<=b)(hn:H' b=none):FpOk X pins H' b:=by
 refine⟨hn,Nat.ne_of_gt (lt_of_lt_of_le I.lt hb),I.nofs hb,.inr (le_trans I.sz hb),λx c e z=>?_,λp hp z=>?_⟩
 .obtain ⟨v,q⟩:=I.cell x c e
  exact absurd (lt_of_lt_of_le q.lt (by rw[z];exact hb)) (lt_irrefl _)
 .exact absurd (lt_of_lt_of_le (lt_size (I.pin p hp).1) (by rw[z];exact hb)) (lt_irrefl _)
structure Turn (P:Program) (w:World) (K:Frag) (tg:Expr) (J:It) (fp:List Addr) (it:Addr) (tn:Nat->Heap->Prop):Prop where
 mem:it∈fp
 obj:∀i h,tn i h->∀b∈fp,∃o,h.get? b=some o/\∀v,o.data≠.cell v
 keep:∀i h h',tn i h->(∀b∈fp,∀o,h.get? b=some o->h'.get? b=some o)->tn i h'
 item:∀(X:Cx),X.prog=P->X.w=w->X.K=K->X.calm=true->∀(i:Nat) (pins:List (Addr×Obj)) (s:Shared) (Y:St) (H:Hp) (E:Value->Shared->Prop),Inv X pins Y H s->(∀b∈fp,FpOk X pins H b)->tn i s.heap->J.go i H->
  wpAny (model P w) X.A (pyNext (.ref it)) (λr s1=>∃u,r=some u/\
   wpAny (model P w) X.A (letOwnedTupleGo tg (.ref it) u) (λ_ s2=>∃x H',Inv X pins Y H' s2/\RelV x u/\J.yld i H x H'/\tn (i+1) s2.heap/\∀b∈fp,H' b=none) E s1) E s
 done:∀(X:Cx),X.prog=P->X.w=w->X.K=K->X.calm=true->∀(i:Nat) (pins:List (Addr×Obj)) (s:Shared) (Y:St) (H:Hp) (E:Value->Shared->Prop),Inv X pins Y H s->(∀b∈fp,FpOk X pins H b)->tn i s.heap->J.stop i H->
  wpAny (model P w) X.A (pyNext (.ref it)) (λr s1=>r=none/\Inv X pins Y H s1) E s
 self:∀(A:Around) (i:Nat) (s:Shared) (Q:Value->Shared->Prop) (E:Value->Shared->Prop),tn i s.heap->Q (.ref it) s->wpAny (model P w) A (pyIter (.ref it)) Q E s
abbrev TI:=St->Hp->(It->Hp->Prop)->Prop
def PIE (X:Cx)(pins:List (Addr×Obj))(Y:St)(tg:Expr)(R:It->Hp->Prop)(itv:Value)(s2:Shared):Prop:=
 ∃(it:Addr) (fp:List Addr) (tn:Nat->Heap->Prop) (J:It) (H':Hp),itv = .ref it/\Inv X pins Y H' s2/\Turn X.prog X.w X.K tg J fp it tn/\tn 0 s2.heap/\(∀b∈fp,FpOk X pins H' b)/\R J H'
def PI (X:Cx)(tg iter:Expr)(wi:TI):Prop:=
 ∀(pins:List (Addr×Obj)) (s:Shared) (Y:St) (H:Hp) (R:It->Hp->Prop),Inv X pins Y H s->wi Y H R->
  wpAny (model X.prog X.w) X.A (eval iter X.env) (λv s1=>wpAny (model X.prog X.w) X.A (pyIter v) (PIE X pins Y tg R) X.xe s1) X.xe s
theorem go_of {M:Model}{A:Around}{E:Value->Shared->Prop}{s:Shared}{tg:Expr}{it:Addr}{u:Value}{o:Obj}{n:String}{vs:Array Value}{Q:Unit->Shared->Prop}(ho:s.heap.get? it=some o)(hc:o.cls = .type n)(hd:o.data = .fields vs)
  (hn:["enumerate","zip","dict_itemiterator","dict_reverseitemiterator","odict_iterator","itertools.zip_longest","itertools.pairwise"].contains n=false) (hQ:Q () s):wpAny M A (letOwnedTupleGo tg (.ref it) u) Q E s:=by
 cases tg <;> first
  |exact wpAny_pure hQ
  | (cases u<;>first
    |exact wpAny_pure hQ
    | (refine wpAny_bind (wpAny_load ho ?_)
       rw[hc,hd]
       show wpAny M A (if (["enumerate","zip","dict_itemiterator","dict_reverseitemiterator","odict_iterator","itertools.zip_longest","itertools.pairwise"].contains n && vs[0]?==some (rawInt _))=true then _ else _) Q E s
       rw[if_neg (by intro h;rw[hn]at h;cases h)]
       exact wpAny_pure hQ))
def Itl (K:Frag)(a:Addr):It:=
 ⟨λi H=>∃xs x,SqL K H a xs/\xs[i]?=some x,λi H x H'=>H'=H/\∀xs,SqL K H a xs->xs[i]?=some x,λi H=>∃xs,SqL K H a xs/\xs.length<=i⟩
def Itr (lo:Int)(n:Nat):It:=⟨λi _=>i<n,λi H x H'=>H'=H/\x = .int (lo+i),λi _=>n<=i⟩
theorem turn_list {P:Program}{w:World}{K:Frag}{tg:Expr}(a it:Addr):Turn P w K tg (Itl K a) [it] it (λi h=>h.IsListIter it a i) where
 mem:=by simp
 obj:=λi h st b hb=>by
  have e:b=it:=by simpa using hb
  subst e
  obtain⟨o,e,c,d⟩:=st
  exact⟨o,e,λv z=>by rw[d]at z;cases z⟩
 keep:=λi h h' st k=>st.at λo e=>k it (by simp) o e
 item:=by
  kj_on
  obtain⟨xs,x,hq,hx⟩:=hg
  obtain⟨its,rv,p,hz⟩:=I.list hq
  obtain⟨u,hu,ru⟩:=rv.get hx
  obtain⟨f0,f1,f2,f3,f4,f5⟩:=hf it (by simp)
  refine wpAny_pyNext_list_item st p.isList (by simpa using hu) λh' st' sb=>?_
  have I1:Inv X pins Y H {s with heap:=h'}:=I.turned (t':=s.toks) (λb o hb e=>(sb.2 b hb).trans e) f0 f1 f3 f4 f5
  obtain⟨o,e,c,d⟩:=id st'
  exact⟨u,rfl,go_of (s:={s with heap:=h'}) e c d rfl ⟨x,H,I1,ru,⟨rfl,λys hy=>by rw[I.list_inj hy hq];exact hx⟩,st',λb hb=>(hf b hb).1⟩⟩
 done:=by
  kj_on
  obtain⟨xs,hq,hx⟩:=hg
  obtain⟨its,rv,p,hz⟩:=I.list hq
  obtain⟨f0,f1,f2,f3,f4,f5⟩:=hf it (by simp)
  have hl:=rv.length
  exact wpAny_pyNext_list_end (I.ok.hd hc) st p.isList (by simp;lia) λh' eb=>⟨rfl,I.turned (t':=s.toks) (λb o hb e=>eb b o hb e) f0 f1 f3 f4 f5⟩
 self:=λ_ _ _ _ _ st h=>wpAny_pyIter_listiter st h
theorem turn_range {P:Program}{w:World}{K:Frag}{tg:Expr}(it:Addr)(lo:Int)(n:Nat):Turn P w K tg (Itr lo n) [it] it (λi h=>IsRangeIter h it (lo+(i:Nat)*1) ((n:Int)-(i:Nat)) 1) where
 mem:=by simp
 obj := λi h st b hb=>by
  have e:b=it:=by simpa using hb
  subst e
  exact⟨_,st,λv z=>by
   have z':Data.fields _=Data.cell v:=z
   cases z'⟩
 keep:=λi h h' st k=>k it (by simp) _ st
 item:=by
  kj_on
  obtain⟨f0,f1,f2,f3,f4,f5⟩:=hf it (by simp)
  have W:=Walks.range (prog:=X.prog) (w:=X.w) (I.ok.hd hc) it lo 1 n
  refine W.item i s _ _ hg st λv h' tk hv st' kk=>?_
  obtain⟨t,rfl⟩:=hv
  have I1:Inv X pins Y H {s with heap:=h',toks:=tk}:=I.turned (λb o hb e=>kk b o (by simpa using hb) e) f0 f1 f3 f4 f5
  refine⟨_,rfl,go_of (s:={s with heap:=h',toks:=tk}) (n := "range_iterator") st' rfl rfl rfl ⟨.int (lo+i),H,I1,⟨t,?_⟩,⟨rfl,rfl⟩,st',λb hb=>(hf b hb).1⟩⟩
  rw[Int.mul_one]
 done:=by
  intro X hP hw hK hc i pins s Y H E I hf st hg
  obtain⟨f0,f1,f2,f3,f4,f5⟩:=hf it (by simp)
  exact wpAny_pyNext_range_end (I.ok.hd hc) st (by have:n<=i:=hg;lia) λh' eb=>⟨rfl,I.turned (t':=s.toks) (λb o hb e=>eb b o hb e) f0 f1 f3 f4 f5⟩
 self:=λ_ _ _ _ _ st h=>wpAny_pyIter_rangeiter st h
section
variable {X:Cx}{tg:Expr}
def iList (K:Frag)(tl:TE):TI:=λY H R=>tl Y H λx H1=>∃a,x = .ref a/\(∃xs,SqL K H1 a xs)/\R (Itl K a) H1
theorem pi_list {l:Expr}{tl:TE}(hl:PE X l tl):PI X tg l (iList X.K tl):=by
 intro pins s Y H R I h
 refine thn (hl pins s Y H _ I h) λv s1 ⟨x,H1,I1,r1,q1⟩=>?_
 obtain⟨a,e,⟨xs,hq⟩,q⟩:=q1
 subst e
 cases r1
 obtain⟨its,rv,p,hz⟩:=I1.list hq
 refine wpAny_pyIter_list p.isList ?_
 refine⟨s1.heap.objs.size,[s1.heap.objs.size],_,_,H1,rfl,I1.kept (t':=s1.toks) λb o e=>get?_push_of_some _ e,turn_list a _,⟨_,get?_push_size _ rfl,rfl,rfl⟩,λb hb=>?_,q⟩
 have e:b=s1.heap.objs.size:=by simpa using hb
 subst e
 exact I1.fpOk (Nat.le_refl _) (I1.hok.fresh (Nat.le_refl _))
theorem range_it {pins:List (Addr×Obj)}{Y:St}{H:Hp}{s:Shared}{R:It->Hp->Prop}{E:Value->Shared->Prop}{lo hi:Int}{t u v:Tok}{tk:Nat}(I:Inv X pins Y H s)(h1 : -(2^62)<=lo)(h2:lo<2^62)(h3 : -(2^62)<=hi)(h4:hi<2^62)
  (q:R (Itr lo (hi-lo).toNat) H):wpAny (model X.prog X.w) X.A (pyIter (.ref s.heap.objs.size)) (PIE X pins Y tg R) E {s with heap:=s.heap.push {cls:=.type "range",data:=.fields #[.int lo t,.int hi u,.int 1 v]},toks:=tk}:=by
 refine wpAny_pyIter_range (IsRange.new ..) (small_one h1 h2 h3 h4) ?_
 have I1:Inv X pins Y H {s with heap:=s.heap.push {cls:=.type "range",data:=.fields #[.int lo t,.int hi u,.int 1 v]},toks:=tk}:=I.kept λb o e=>get?_push_of_some _ e
 refine⟨(s.heap.push {cls:=.type "range",data:=.fields #[.int lo t,.int hi u,.int 1 v]}).objs.size,[(s.heap.push {cls:=.type "range",data:=.fields #[.int lo t,.int hi u,.int 1 v]}).objs.size],_,_,H,rfl,
  I1.kept (t':=tk) λb o e=>get?_push_of_some _ e,turn_range _ lo (hi-lo).toNat,?_,λb hb=>?_,q⟩
 .have e1:lo+((0:Nat):Int)*1=lo:=by simp
  have e2:(((hi-lo).toNat:Nat):Int)-((0:Nat):Int)=Builtin.Range.rangeSize lo hi 1:=by rw[rangeSize_one];split<;>lia
  rw[e1,e2]
  exact get?_push_size _ rfl
 .have e:b=(s.heap.push {cls:=.type "range",data:=.fields #[.int lo t,.int hi u,.int 1 v]}).objs.size:=by simpa using hb
  subst e
  exact I1.fpOk (Nat.le_refl _) (I1.hok.fresh (Nat.le_refl _))
def iRng1 (ta:TA):TI:=λY H R=>ta Y H λvs H1=>∃j:Int,vs=[.int j]/\-(2^62)<=j/\j<2^62/\R (Itr 0 j.toNat) H1
def iRng2 (ta:TA):TI:=λY H R=>ta Y H λvs H1=>∃i j:Int,vs=[.int i,.int j]/\(-(2^62)<=i/\i<2^62/\-(2^62)<=j/\j<2^62)/\R (Itr i (j-i).toNat) H1
theorem pi_range1 {a:Expr}{ta:TA}{p pos:Pos}(hg:Gl X "range")(hm:X.mg "range"=none)(ha:PA X [a] ta)(hs:starEach [a] X.env=[(false,eval a X.env)]:=by rfl):PI X tg (.Call (.Name "range" p) [a] [] pos) (iRng1 ta):=by
 intro pins s Y H R I h
 refine Call_ (ld_blt I hg hm boot_range (PyProof.Rows.callWith_type1 (thn (ha pos pins s Y H _ I h) λus s1 ⟨vs,H1,I1,r1,q1⟩=>?_) hs rfl))
 obtain⟨j,e,q1,q2,q⟩:=q1
 subst e
 cases r1 with
 |cons r rr=>
  cases rr
  obtain⟨t,rfl⟩:=r
  exact call_range_1 (range_it I1 (by lia) (by lia) q1 q2 (by simpa using q))
theorem pi_range2 {a b:Expr}{ta:TA}{p pos:Pos}(hg:Gl X "range")(hm:X.mg "range"=none)(ha:PA X [a,b] ta)(hs:starEach [a,b] X.env=[(false,eval a X.env),(false,eval b X.env)]:=by rfl)(hs2:starEach [b] X.env=[(false,eval b X.env)]:=by rfl):
  PI X tg (.Call (.Name "range" p) [a,b] [] pos) (iRng2 ta):=by
 intro pins s Y H R I h
 refine Call_ (ld_blt I hg hm boot_range (PyProof.Rows.callWith_type1 (thn (ha pos pins s Y H _ I h) λus s1 ⟨vs,H1,I1,r1,q1⟩=>?_) (by rw[hs,hs2]) (by rw[hs2];rfl)))
 obtain⟨i,j,e,⟨q1,q2,q3,q4⟩,q⟩:=q1
 subst e
 cases r1 with
 |cons r rr=>
  cases rr with
  |cons r' rr=>
   cases rr
   obtain⟨t,rfl⟩:=r
   obtain⟨t',rfl⟩:=r'
   exact call_range_2 (range_it I1 q1 q2 q3 q4 q)
def tFor (wi:TI)(g:TG)(tb:TS):TS:=λD Y H=>wi Y H λJ H1=>∃W:Nat->Nat->St->Hp->Prop,(∃m,W 0 m Y H1)/\∀i m Y H,W i m Y H->
 (J.stop i H/\D.nx Y H)∨(J.go i H/\∃N:St->Hp->Prop,(∀Y' H',N Y' H'->∃m',m'<m/\W (i+1) m' Y' H')/\∀x H',J.yld i H x H'->g x Y H' λY2 H2=>tb {D with nx:=N,ct:=N,bk:=D.nx} Y2 H2)
def pinsAt (fp:List Addr)(h:Heap):List (Addr×Obj):=fp.filterMap λb=>(h.get? b).map λo=>(b,o)
theorem mem_pinsAt {fp:List Addr}{h:Heap}{b:Addr}{o:Obj}(hb:b∈fp)(e:h.get? b=some o):(b,o)∈pinsAt fp h:=mem_filterMap.mpr ⟨b,hb,by rw[e];rfl⟩
theorem of_pinsAt {fp:List Addr}{h:Heap}{p:Addr×Obj}(hp:p∈pinsAt fp h):p.1∈fp/\h.get? p.1=some p.2:=by
 obtain⟨b,hb,e⟩:=mem_filterMap.mp hp
 cases q:h.get? b with
 |none=>rw[q]at e;cases e
 |some o=>
  rw[q]at e
  have e':(b,o)=p:=Option.some.inj e
  subst e'
  exact⟨hb,q⟩
theorem Inv.pinned {pins:List (Addr×Obj)}{Y:St}{H:Hp}{s:Shared}{fp:List Addr}(I:Inv X pins Y H s)(hf:∀b∈fp,FpOk X pins H b)(ho:∀b∈fp,∃o,s.heap.get? b=some o/\∀v,o.data≠.cell v):Inv X (pins++pinsAt fp s.heap) Y H s:=
 I.pins_of λp hp=>(mem_append.mp hp).elim (λz=>I.pin p (mem_append_right _ z)) λz=>by
  obtain⟨hb,e⟩:=of_pinsAt z
  obtain⟨f0,f1,f2,_⟩:=hf p.1 hb
  obtain⟨o,e',d⟩:=ho p.1 hb
  rw[e]at e';cases e'
  exact⟨e,f0,f1,f2,d⟩
theorem Inv.unpinned {pins pl:List (Addr×Obj)}{Y:St}{H:Hp}{s:Shared}(I:Inv X (pins++pl) Y H s):Inv X pins Y H s:=I.pins_of λp hp=>I.pin p (mem_append_right _ (mem_append_left _ hp))
theorem ps_for {iter:Expr}{body:List Stmt}{wi:TI}{g:TG}{tb:TS}{pos:Pos}(hp:PassesOwn (model X.prog X.w) X.A X.env X.xe)(hc:X.calm=true)(hi:PI X tg iter wi)(hg:PG X tg g)(hb:PSs X body tb)
  (hs:∀x,foldedSetIterable iter X.env x=pure x:=by intro _;rfl):PS X (.For tg iter body [] pos) (tFor wi g tb):=by
 intro pins s Y H D I h
 refine wpAny_For (thn (hi pins s Y H _ I h) λv s1 h1=>thn h1 λitv s2 h2=>?_) hs
 obtain⟨it,fp,tn,J,H2,e,I2,T,st2,f2,W,⟨m0,w0⟩,turn⟩:=h2
 subst e
 have stat:∀{H':Hp},(∀b∈fp,H' b=none)->∀b∈fp,FpOk X pins H' b:=λhn b hb=>⟨hn b hb,(f2 b hb).2⟩
 refine codeAny_forLoop_any (λn s'=>∃i Y' H',Inv X pins Y' H' s'/\tn i s'.heap/\(∀b∈fp,H' b=none)/\W i n Y' H') ?_ m0 ⟨0,Y,H2,I2,st2,λb hb=>(f2 b hb).1,w0⟩
 rintro n s3 ⟨i,Y3,H3,I3,st3,fr3,w3⟩
 rcases turn i n Y3 H3 w3 with⟨stop,qn⟩ | ⟨go,N,hN,step⟩
 .refine wpAny_passesOwn hp (thn (T.done X rfl rfl rfl hc i pins s3 Y3 H3 X.xe I3 (stat fr3) st3 stop) λr s4 ⟨hr,I4⟩=>?_)
  subst hr
  exact wpAny_execs_nil ⟨Y3,H3,I4,qn⟩
 .refine wpAny_passesOwn hp (thn (T.item X rfl rfl rfl hc i pins s3 Y3 H3 X.xe I3 (stat fr3) st3 go) λr s4 ⟨u,hr,h4⟩=>?_)
  subst hr
  refine wpAny_passesOwn hp (thn h4 λ_ s5 ⟨x,H5,I5,r5,y5,st5,fr5⟩=>?_)
  have I5':=I5.pinned (stat fr5) (T.obj _ _ st5)
  refine wpAny_passesOwn hp (thn (hg _ s5 Y3 H5 x u _ I5' r5 (step x H5 y5)) λ_ s6 ⟨Y6,H6,I6,q6⟩=>?_)
  refine wpAny_passesOwn hp (thn (hb _ s6 Y6 H6 _ I6 q6) λf s7 q7=>?_)
  have again:∀{Y7:St} {H7:Hp},Inv X (pins++pinsAt fp s5.heap) Y7 H7 s7->N Y7 H7->∃m,m<n/\∃i Y' H',Inv X pins Y' H' s7/\tn i s7.heap/\(∀b∈fp,H' b=none)/\W i m Y' H':=λ{Y7 H7} I7 n7=>by
   obtain⟨m',hm,w7⟩:=hN Y7 H7 n7
   refine⟨m',hm,i+1,Y7,H7,I7.unpinned,T.keep _ _ _ st5 λb hb o e=>(I7.pin (b,o) (mem_append_right _ (mem_append_right _ (mem_pinsAt hb e)))).1,λb hb=>?_,w7⟩
   obtain⟨o,e,d⟩:=T.obj _ _ st5 b hb
   exact (I7.pin (b,o) (mem_append_right _ (mem_append_right _ (mem_pinsAt hb e)))).2.1
  cases f with
  |next=>obtain⟨Y7,H7,I7,n7⟩:=q7;exact again I7 n7
  |cont=>obtain⟨Y7,H7,I7,n7⟩:=q7;exact again I7 n7
  |brk=>obtain⟨Y7,H7,I7,q7⟩:=q7;exact⟨Y7,H7,I7.unpinned,q7⟩
  |ret v=>obtain⟨x7,Y7,H7,I7,r7,q7⟩:=q7;exact⟨x7,Y7,H7,I7.unpinned,r7,q7⟩
end
abbrev R2:=V->V->Hp->VK->Prop
def OpR (X:Cx)(f:Value->Value->Sem Value)(r:R2):Prop:=
 ∀(pins:List (Addr×Obj)) (s:Shared) (Y:St) (H:Hp) (x y:V) (v u:Value) (Q:VK),Inv X pins Y H s->RelV x v->RelV y u->r x y H Q->
  wpAny (model X.prog X.w) X.A (f v u) (EP X pins Y Q) X.xe s
def CallR (X:Cx)(f:Value)(r:List V->Hp->VK->Prop):Prop:=
 ∀(pins:List (Addr×Obj)) (s:Shared) (Y:St) (H:Hp) (xs:List V) (us:List Value) (Q:VK),Inv X pins Y H s->Vals xs us->r xs H Q->
  wpAny (model X.prog X.w) X.A (call f us) (EP X pins Y Q) X.xe s
def tOp (r:R2)(ta tb:TE):TE:=λY H Q=>ta Y H λx H1=>tb Y H1 λy H2=>r x y H2 Q
def rI (C:Int->Int->Prop)(g:Int->Int->V):R2:=λx y H Q=>∃i j,x = .int i/\y = .int j/\C i j/\Q (g i j) H
def rI0 (g:Int->Int->V):R2:=λx y H Q=>∃i j,x = .int i/\y = .int j/\Q (g i j) H
section
variable {X:Cx}{a b c:Expr}{ta tb tc:TE}{pos:Pos}
theorem binT (ha:PE X a ta)(hb:PE X b tb){pins:List (Addr×Obj)}{s:Shared}{Y:St}{H:Hp}{R:V->V->Hp->Prop}(I:Inv X pins Y H s)
  (h:ta Y H λx H1=>tb Y H1 λy H2=>R x y H2) {Q:Value->Shared->Prop} {f:Value->Value->Sem Value}
  (hf:∀v u s2 x y H2,Inv X pins Y H2 s2->RelV x v->RelV y u->R x y H2->wpAny (model X.prog X.w) X.A (f v u) Q X.xe s2):
  wpAny (model X.prog X.w) X.A (eval a X.env) (λv s₁=>wpAny (model X.prog X.w) X.A (eval b X.env) (λu s₂=>wpAny (model X.prog X.w) X.A (f v u) Q X.xe s₂) X.xe s₁) X.xe s:=by
 refine thn (ha pins s Y H _ I h) λv s1 ⟨x,H1,I1,r1,q1⟩=>?_
 refine thn (hb pins s1 Y H1 _ I1 q1) λu s2 ⟨y,H2,I2,r2,q2⟩=>?_
 exact hf v u s2 x y H2 I2 r1 r2 q2
theorem pe_op {op:Operator}{r:R2}(ho:OpR X (binaryOp op) r)(ha:PE X a ta)(hb:PE X b tb):PE X (.BinOp a op b pos) (tOp r ta tb):=by
 intro pins s Y H Q I h
 exact wpAny_BinOp (binT ha hb I h λv u s2 x y H2 I2 rx ry q=>ho pins s2 Y H2 x y v u Q I2 rx ry q)
theorem opI {f:Value->Value->Sem Value}{C:Int->Int->Prop}{g:Int->Int->Int}
  (rule:∀(i j:Int) (t u:Tok) (s:Shared) (Q:Value->Shared->Prop) (E:Value->Shared->Prop),C i j->Q (.int (g i j) s.toks) {s with toks:=s.toks+1}->wpAny (model X.prog X.w) X.A (f (.int i t) (.int j u)) Q E s):
  OpR X f (rI C λi j=>.int (g i j)):=by
 intro pins s Y H x y v u Q I rx ry h
 obtain⟨i,j,rfl,rfl,hc,q⟩:=h
 obtain⟨t,rfl⟩:=rx
 obtain⟨t',rfl⟩:=ry
 exact rule i j t t' s _ _ hc ⟨.int (g i j),H,I.tok _,⟨_,rfl⟩,q⟩
theorem opI0 {f:Value->Value->Sem Value}{g:Int->Int->Int}
  (rule:∀(i j:Int) (t u:Tok) (s:Shared) (Q:Value->Shared->Prop) (E:Value->Shared->Prop),Q (.int (g i j) s.toks) {s with toks:=s.toks+1}->wpAny (model X.prog X.w) X.A (f (.int i t) (.int j u)) Q E s):
  OpR X f (rI0 λi j=>.int (g i j)):=by
 intro pins s Y H x y v u Q I rx ry h
 obtain⟨i,j,rfl,rfl,q⟩:=h
 obtain⟨t,rfl⟩:=rx
 obtain⟨t',rfl⟩:=ry
 exact rule i j t t' s _ _ ⟨.int (g i j),H,I.tok _,⟨_,rfl⟩,q⟩
theorem opB0 {f:Value->Value->Sem Value}{g:Int->Int->Bool}
  (rule:∀(i j:Int) (t u:Tok) (s:Shared) (Q:Value->Shared->Prop) (E:Value->Shared->Prop),Q (.bool (g i j)) s->wpAny (model X.prog X.w) X.A (f (.int i t) (.int j u)) Q E s):
  OpR X f (rI0 λi j=>.bl (g i j)):=by
 intro pins s Y H x y v u Q I rx ry h
 obtain⟨i,j,rfl,rfl,q⟩:=h
 obtain⟨t,rfl⟩:=rx
 obtain⟨t',rfl⟩:=ry
 exact rule i j t t' s _ _ ⟨.bl (g i j),H,I,rfl,q⟩
def CDiv (i j:Int):Prop:=0<j/\j<1073741824
def CMul (i j:Int):Prop:=(-(2^64)<i/\i<2^64)∨(-(2^64)<j/\j<2^64)
theorem CMul.ok {i j:Int}(h:CMul i j):IntMulOk i j:=by
 rcases h with⟨h1,h2⟩ | ⟨h1,h2⟩
 .exact .of_left (intBits_le_64 h1 h2)
 .exact .of_right (intBits_le_64 h1 h2)
theorem op_add:OpR X (binaryOp .Add) (rI0 λi j=>.int (i+j)):=opI0 λ_ _ _ _ _ _ _ q=>add_int q
theorem op_sub:OpR X (binaryOp .Sub) (rI0 λi j=>.int (i-j)):=opI0 λ_ _ _ _ _ _ _ q=>sub_int q
theorem op_fdiv:OpR X (binaryOp .FloorDiv) (rI CDiv λi j=>.int (i / j)):=opI λi j _ _ _ _ _ hc q=>by
 have h1:(0:Int)<j:=hc.1
 have h2:j<1073741824:=hc.2
 exact floordiv_int (by lia) (by rw[Int.fdiv_eq_ediv_of_nonneg i (by lia)];exact q) (.inl (PyProof.noPylong_small (by omega)))
theorem op_mod:OpR X (binaryOp .Mod) (rI (λ_ j=>0<j) λi j=>.int (i%j)):=opI λi j _ _ _ _ _ hc q=>by
 exact mod_int' (by lia) (by rw[Int.fmod_eq_emod_of_nonneg i (by lia)];exact q)
end
def scal:V->V->Bool
 | .non,.non=>true | .non,.int _=>true | .int _,.non=>true | .non,.bl _=>true | .bl _,.non=>true | .non,.str _=>true | .str _,.non=>true
 | .int _,.int _=>true | .bl _,.bl _=>true | .str _,.str _=>true | .byt _,.byt _=>true
 | .int _,.str _=>true | .str _,.int _=>true | .bl _,.str _=>true | .str _,.bl _=>true
 |_,_=>false
def rEq:R2:=λx y H Q=>scal x y=true/\Q (.bl (decide (x=y))) H
def rNe:R2:=λx y H Q=>scal x y=true/\Q (.bl (!decide (x=y))) H
theorem dec_int {i j:Int}:decide (V.int i=V.int j)=(i==j):=by
 rw[Bool.eq_iff_iff]
 simp
theorem dec_bl {i j:Bool}:decide (V.bl i=V.bl j)=(i==j):=by
 rw[Bool.eq_iff_iff]
 simp
theorem dec_str {i j:Str}:decide (V.str i=V.str j)=(i==j):=by
 rw[Bool.eq_iff_iff]
 simp
theorem dec_byt {i j:Array UInt8}:decide (V.byt i=V.byt j)=(i.toList==j.toList):=by
 rw[Bool.eq_iff_iff]
 cases i
 cases j
 simp
section
variable {X:Cx}{a b c:Expr}{ta tb tc:TE}{pos:Pos}
theorem fin_bl {pins:List (Addr×Obj)}{Y:St}{H:Hp}{s:Shared}{Q:VK}{k k':Bool}(I:Inv X pins Y H s)(q:Q (.bl k) H)(e:k=k'):EP X pins Y Q (.bool k') s:=by
 subst e
 exact⟨.bl k,H,I,rfl,q⟩
theorem op_eq:OpR X (compareOp .Eq) rEq:=by
 intro pins s Y H x y v u Q I rx ry h
 obtain⟨hs,q⟩:=h
 cases x with
 |non=>
  cases rx
  cases y with
  |non=>cases ry;exact PySem.EqNone.eq_none_none (fin_bl I q rfl)
  |bl j=>cases ry;exact PySem.EqNone.eq_none_bool (fin_bl I q rfl)
  |int j=>obtain⟨t',rfl⟩:=ry;exact PySem.EqNone.eq_none_int (fin_bl I q rfl)
  |str j=>obtain⟨t',rfl⟩:=ry;exact PySem.EqNone.eq_none_str (fin_bl I q rfl)
  |_=>exact absurd (show false=true from hs) Bool.false_ne_true
 |bl i=>
  cases rx
  cases y with
  |non=>cases ry;exact PySem.EqNone.eq_bool_none (fin_bl I q rfl)
  |bl j=>cases ry;exact eq_bool (fin_bl I q dec_bl)
  |str j=>obtain⟨t',rfl⟩:=ry;exact PySem.EqMixed.eq_bool_str (fin_bl I q rfl)
  |_=>exact absurd (show false=true from hs) Bool.false_ne_true
 |int i=>
  obtain⟨t,rfl⟩:=rx
  cases y with
  |non=>cases ry;exact PySem.EqNone.eq_int_none (fin_bl I q rfl)
  |int j=>obtain⟨t',rfl⟩:=ry;exact eq_int (fin_bl I q dec_int)
  |str j=>obtain⟨t',rfl⟩:=ry;exact PySem.EqMixed.eq_int_str (fin_bl I q rfl)
  |_=>exact absurd (show false=true from hs) Bool.false_ne_true
 |str i=>
  obtain⟨t,rfl⟩:=rx
  cases y with
  |non=>cases ry;exact PySem.EqNone.eq_str_none (fin_bl I q rfl)
  |bl j=>cases ry;exact PySem.EqMixed.eq_str_bool (fin_bl I q rfl)
  |int j=>obtain⟨t',rfl⟩:=ry;exact PySem.EqMixed.eq_str_int (fin_bl I q rfl)
  |str j=>obtain⟨t',rfl⟩:=ry;exact eq_str (fin_bl I q dec_str)
  |_=>exact absurd (show false=true from hs) Bool.false_ne_true
 |byt i=>
  obtain⟨t,rfl⟩:=rx
  cases y with
  |byt j=>obtain⟨t',rfl⟩:=ry;exact PySem.W.eq_bytes (fin_bl I q dec_byt)
  |_=>exact absurd (show false=true from hs) Bool.false_ne_true
 |_=>cases y<;>exact absurd (show false=true from hs) Bool.false_ne_true
theorem op_ne:OpR X (compareOp .NotEq) rNe:=by
 intro pins s Y H x y v u Q I rx ry h
 obtain⟨hs,q⟩:=h
 cases x with
 |non=>
  cases rx
  cases y with
  |non=>cases ry;exact PySem.EqNone.ne_none_none (fin_bl I q rfl)
  |bl j=>cases ry;exact PySem.EqNone.ne_none_bool (fin_bl I q rfl)
  |int j=>obtain⟨t',rfl⟩:=ry;exact PySem.EqNone.ne_none_int (fin_bl I q rfl)
  |str j=>obtain⟨t',rfl⟩:=ry;exact PySem.EqNone.ne_none_str (fin_bl I q rfl)
  |_=>exact absurd (show false=true from hs) Bool.false_ne_true
 |bl i=>
  cases rx
  cases y with
  |non=>cases ry;exact PySem.EqNone.ne_bool_none (fin_bl I q rfl)
  |bl j=>cases ry;exact ne_bool (fin_bl I q (congrArg not dec_bl))
  |str j=>obtain⟨t',rfl⟩:=ry;exact PySem.EqMixed.ne_bool_str (fin_bl I q rfl)
  |_=>exact absurd (show false=true from hs) Bool.false_ne_true
 |int i=>
  obtain⟨t,rfl⟩:=rx
  cases y with
  |non=>cases ry;exact PySem.EqNone.ne_int_none (fin_bl I q rfl)
  |int j=>obtain⟨t',rfl⟩:=ry;exact ne_int (fin_bl I q (congrArg not dec_int))
  |str j=>obtain⟨t',rfl⟩:=ry;exact PySem.EqMixed.ne_int_str (fin_bl I q rfl)
  |_=>exact absurd (show false=true from hs) Bool.false_ne_true
 |str i=>
  obtain⟨t,rfl⟩:=rx
  cases y with
  |non=>cases ry;exact PySem.EqNone.ne_str_none (fin_bl I q rfl)
  |bl j=>cases ry;exact PySem.EqMixed.ne_str_bool (fin_bl I q rfl)
  |int j=>obtain⟨t',rfl⟩:=ry;exact PySem.EqMixed.ne_str_int (fin_bl I q rfl)
  |str j=>obtain⟨t',rfl⟩:=ry;exact ne_str (fin_bl I q (congrArg not dec_str))
  |_=>exact absurd (show false=true from hs) Bool.false_ne_true
 |byt i=>
  obtain⟨t,rfl⟩:=rx
  cases y with
  |byt j=>obtain⟨t',rfl⟩:=ry;exact PySem.W.ne_bytes (fin_bl I q (congrArg not dec_byt))
  |_=>exact absurd (show false=true from hs) Bool.false_ne_true
 |_=>cases y<;>exact absurd (show false=true from hs) Bool.false_ne_true
theorem op_lt:OpR X (compareOp .Lt) (rI0 λi j=>.bl (decide (i<j))):=opB0 λ_ _ _ _ _ _ _ q=>lt_int q
theorem op_le:OpR X (compareOp .LtE) (rI0 λi j=>.bl (decide (i<=j))):=opB0 λ_ _ _ _ _ _ _ q=>le_int q
theorem op_gt:OpR X (compareOp .Gt) (rI0 λi j=>.bl (decide (j<i))):=opB0 λ_ _ _ _ _ _ _ q=>gt_int q
theorem nomark (b:Expr){op:CmpOp}(h:op≠.In:=by decide)(h2:op≠.NotIn:=by decide):behindInMarks op b=false:=by
 have e1:(op==CmpOp.In)=false:=by cases op<;>first |rfl |exact absurd rfl h
 have e2:(op==CmpOp.NotIn)=false:=by cases op<;>first |rfl |exact absurd rfl h2
 cases b<;>simp[behindInMarks,e1,e2]
theorem pe_cmpR {op:CmpOp}{r:R2}(ho:OpR X (compareOp op) r)(ha:PE X a ta)(hb:PE X b tb)(hm:behindInMarks op b=false):PE X (.Compare a [op] [b] pos) (tOp r ta tb):=by
 intro pins s Y H Q I h
 exact wpAny_Compare1 (binT ha hb I h λv u s2 x y H2 I2 rx ry q=>ho pins s2 Y H2 x y v u Q I2 rx ry q) hm
def tTest (t:TE):TT:=λY H Q=>t Y H λx H'=>∃k,x = .bl k/\Q k H'
theorem pt_cmpR {op:CmpOp}{r:R2}(ho:OpR X (compareOp op) r)(ha:PE X a ta)(hb:PE X b tb)(hm:behindInMarks op b=false):PT X (.Compare a [op] [b] pos) (tTest (tOp r ta tb)):=by
 intro pins s Y H Q I h
 refine wpAny_isTrue_Compare1 (thn (ha pins s Y H _ I h) λv s1 ⟨x,H1,I1,r1,q1⟩=>thn (hb pins s1 Y H1 _ I1 q1) λu s2 ⟨y,H2,I2,r2,q2⟩=>
  thn (ho pins s2 Y H2 x y v u _ I2 r1 r2 q2) λc s3 ⟨z,H3,I3,r3,k,e,q3⟩=>?_) hm
 subst e
 cases r3
 exact wpAny_truthy_bool ⟨H3,I3,q3⟩
def tChain (r r':R2)(ta tb tc:TE):TE:=λY H Q=>ta Y H λx H1=>tb Y H1 λy H2=>r x y H2 λz H3=>∃k,z = .bl k/\
 (if k=true then tc Y H3 λw' H4=>r' y w' H4 Q else Q (.bl false) H3)
theorem pe_chain {op op':CmpOp}{r r':R2}(ho:OpR X (compareOp op) r)(ho':OpR X (compareOp op') r')(ha:PE X a ta)(hb:PE X b tb)(hc:PE X c tc)
  (hm:lastMarks [op,op'] [b,c]=false:=by with_unfolding_all rfl):PE X (.Compare a [op,op'] [b,c] pos) (tChain r r' ta tb tc):=by
 intro pins s Y H Q I h
 refine Compare_chain (thn (ha pins s Y H _ I h) λv s1 ⟨x,H1,I1,r1,q1⟩=>chain_link (thn (hb pins s1 Y H1 _ I1 q1) λu s2 ⟨y,H2,I2,r2,q2⟩=>
  thn (ho pins s2 Y H2 x y v u _ I2 r1 r2 q2) λd s3 ⟨z,H3,I3,r3,k,e,q3⟩=>?_)) hm
 subst e
 cases r3
 refine wpAny_truthy_bool ?_
 cases k with
 |false=>exact ite_ff ⟨.bl false,H3,I3,rfl,q3⟩
 |true=>exact ite_tt (chain_last (thn (hc pins s3 Y H3 _ I3 q3) λw' s4 ⟨z',H4,I4,r4,q4⟩=>ho' pins s4 Y H4 y z' u w' Q I4 r2 r4 q4))
theorem line63:(sizeLine:Nat)<2^63:=by rw[sizeLine_eq];decide
theorem op_add_str:OpR X (binaryOp .Add) (λx y H Q=>∃i j,x = .str i/\y = .str j/\i.length+j.length<=sizeLine/\Q (.str (i++j)) H):=by
 intro pins s Y H x y v u Q I rx ry h
 obtain⟨i,j,rfl,rfl,hz,q⟩:=h
 obtain⟨t,rfl⟩:=rx
 obtain⟨t',rfl⟩:=ry
 exact add_str (λt' tk=>⟨.str (i++j),H,I.tok _,⟨_,rfl⟩,q⟩) hz
theorem vals1 {x:V}{us:List Value}(r:Vals [x] us):∃u,us=[u]/\RelV x u:=by
 cases r with
 |cons r1 r2=>cases r2;exact⟨_,rfl,r1⟩
theorem vals2 {x y:V}{us:List Value}(r:Vals [x,y] us):∃u w',us=[u,w']/\RelV x u/\RelV y w':=by
 cases r with
 |cons r1 r2=>
  cases r2 with
  |cons r3 r4=>cases r4;exact⟨_,_,rfl,r1,r3⟩
theorem call_str_int:CallR X (.type "str") (λxs H Q=>∃i,xs=[.int i]/\i.natAbs.log2<1920/\Q (.str (toString i)) H):=by
 intro pins s Y H xs us Q I r h
 obtain⟨i,rfl,hz,q⟩:=h
 obtain⟨u,rfl,t,rfl⟩:=vals1 r
 exact PySem.P.str_of_int hz ⟨.str _,H,I.tok _,⟨_,rfl⟩,q⟩
end
structure ObjM (h:Heap) (x dx C:Addr) (mA:Str->Option Value):Prop where
 obj:h.get? x=some (instObj C dx)
 ns:h.Ns1 dx mA
 ne:dx≠x
theorem lookIn_ns {h:Heap}{dx:Addr}{mA:Str->Option Value}(n:h.Ns1 dx mA):∃od,h.get? dx=some od/\∀name,lookIn name od=some (mA name):=by
 obtain⟨o,es,ep,ho,hd,hk,_,hm⟩:=n
 refine⟨o,ho,λname=>?_⟩
 have e:=hm name
 unfold nsFind findBy at e
 rw[<- Array.find?_toList]at e
 unfold lookIn
 rw[hd]
 dsimp only
 split
 .rename_i y q
  rw[q]at e
  exact congrArg some e
 .rename_i q
  rw[q]at e
  have a:es.toList.any (·.refKey)=false:=by
   rw[List.any_eq_false]
   intro y hy
   obtain⟨z,t,hkey⟩:=hk y (Array.mem_toList_iff.mp hy)
   simp[DictEntry.refKey,hkey]
  have a':¬ es.toList.any (·.refKey)=true:=by rw[a];exact Bool.false_ne_true
  rw[if_neg a']
  exact congrArg some e
theorem ObjM.look {h:Heap}{x dx C:Addr}{mA:Str->Option Value}(I:ObjM h x dx C mA):∃od,PySem.W.InstAt h x (instObj C dx) C (some od)/\∀name,lookIn name od=some (mA name):=
 let⟨od,ho,hl⟩:=lookIn_ns I.ns
 ⟨od,⟨I.obj,rfl,rfl,ho⟩,hl⟩
section
variable {prog:Program}{w:World}{A:Around}{E:Value->Shared->Prop}{s:Shared}{K:Frag}{x dx C f:Addr}{mA:Str->Option Value}{name:Str}{v:Value}
theorem set_map {ns:List Str}{Q:Unit->Shared->Prop}(X:K.In s.heap)(I:ObjM s.heap x dx C mA)
  (hs:PySem.W.findIn K (.ref C) "__setattr__"=some (some (.builtin "object.__setattr__"))) (hp:plainOver K C=true) (ht:takerIn K C name=some none) (hh:PySem.W.hasDictIn K C=true)
  (hw:PySem.Within mA ns) (hsz:ns.length<=sizeLine)
  (h:∀h',ObjM h' x dx C (λy=>if y=name then some v else mA y)->Heap.SameBut dx s.heap h'->Q () {s with heap:=h',toks:=s.toks+2}):
  wpAny (model prog w) A (setAttr (.ref x) name v) Q E s:=by
 obtain⟨od,J,hl⟩:=I.look
 refine PySem.W.set_plain X J hs (PySem.W.osa_open (s:={s with toks:=s.toks+1}) X J hp ht λb=>?_)
 obtain⟨cd,hc,hd'⟩:=PySem.W.any_some hh
 have hx:s.heap.get? x=some ⟨.ref C,some dx,.plain,#[]⟩:=I.obj
 refine wpAny_bind (wpAny_pure (wpAny_bind (wpAny_bind (wpAny_loadPart hx (wpAny_bind (PySem.W.Looks.here (s:={s with toks:=s.toks+1}) (PySem.W.looks_clsIn X hc) ?_))))))
 rw[hd']
 refine wpAny_pure (a:=some dx) (wpAny_bind (wpAny_pure (wpAny_bind ?_)))
 refine wpAny_nsSet1 (s:={s with toks:=s.toks+1}) I.ns λh' hn2 hs2=>?_
 obtain⟨oD,esD,epD,hoD,hdD,hcD⟩:=hn2.count (PySem.Within.cons name v hw)
 refine wpAny_bind (wpAny_lookBehind hoD (by rw[hdD];exact pastItsLine_dict (le_trans hcD (by rw[length_cons];lia))) ?_)
 exact wpAny_pure (h _ ⟨(hs2.2 _ (Ne.symm I.ne)).trans I.obj,hn2,I.ne⟩ hs2)
theorem make_map {R:Result->Shared->Prop}{vs:List Value}{kw:List (Str×Value)}(X:K.In s.heap)(hm:makesIn K C=true)
  (hi:PySem.W.findIn K (.ref C) "__init__"=some (some (.ref f))) (hf:PySem.W.typeIn K (.ref f)=some (.type "function"))
  (h:codeAny (model prog w) (A.under (.builtin "type.__call__" ⟨.ref C::vs,kw⟩)) (.call (.ref f) ⟨.ref (s.heap.objs.size+1)::vs,kw⟩) (InitBack (s.heap.objs.size+1) R)
   {s with heap:=(s.heap.push emptyDict).push (instObj C s.heap.objs.size)}):
  codeAny (model prog w) A (.call (.ref C) ⟨vs,kw⟩) R s:=by
 exact make_core (makes_of X hm) (PySem.W.looks_findIn X hi) (λself=>PySem.W.bind_fn X self hf) (.inl rfl) h
theorem make_map0 {R:Result->Shared->Prop}(X:K.In s.heap)(hm:makesIn K C=true)
  (hi:PySem.W.findIn K (.ref C) "__init__"=some (some (.builtin "object.__init__")))
  (hb:∀self,PySem.W.Looks (model prog w) s.heap (bindSpecial (.builtin "object.__init__") self) (.builtin "object.__init__",[self]))
  (h:codeAny (model prog w) (A.under (.builtin "type.__call__" ⟨[.ref C],[]⟩)) (.call (.builtin "object.__init__") ⟨[.ref (s.heap.objs.size+1)],[]⟩) (InitBack (s.heap.objs.size+1) R)
   {s with heap:=(s.heap.push emptyDict).push (instObj C s.heap.objs.size)}):
  codeAny (model prog w) A (.call (.ref C) ⟨[],[]⟩) R s:=by
 obtain⟨hh,g,d,t,os⟩:=s
 exact make_core (makes_of X hm) (PySem.W.looks_findIn X hi) hb (.inr ⟨rfl,rfl⟩) h
end
def putF (f:Str)(v:V):List (Str×V)->List (Str×V)
 | []=>[(f,v)]
 | (g,x)::r=>if g=f then (g,v)::r else (g,x)::putF f v r
theorem lookup_putF (f g:Str)(v:V):∀fs:List (Str×V),(putF f v fs).lookup g=if g=f then some v else fs.lookup g
 | []=>by
  show List.lookup g [(f,v)]=_
  by_cases h:g=f
  .have hb:(g==f)=true:=beq_iff_eq.mpr h
   simp only[List.lookup,hb,if_pos h]
  .have hb:(g==f)=false:=beq_eq_false_iff_ne.mpr h
   simp only[List.lookup,hb,if_neg h]
 | (k,x)::r=>by
  have ih:=lookup_putF f g v r
  rw[show putF f v ((k,x)::r)=(if k=f then (k,v)::r else (k,x)::putF f v r) from rfl]
  by_cases hk:k=f
  .rw [if_pos hk]
   by_cases h:g=k
   .have hb:(g==k)=true:=beq_iff_eq.mpr h
    simp only[List.lookup,hb,if_pos (h.trans hk)]
   .have hb:(g==k)=false:=beq_eq_false_iff_ne.mpr h
    simp only[List.lookup,hb,if_neg (λe:g=f=>h (e.trans hk.symm))]
  .rw [if_neg hk]
   by_cases h:g=k
   .have hb:(g==k)=true:=beq_iff_eq.mpr h
    simp only[List.lookup,hb,if_neg (λe:g=f=>hk (h.symm.trans e))]
   .have hb:(g==k)=false:=beq_eq_false_iff_ne.mpr h
    simp only[List.lookup,hb]
    exact ih
theorem keys_putF (f:Str)(v:V):∀fs:List (Str×V),f∈(putF f v fs).map (·.1)/\∀g,g∈fs.map (·.1)->g∈(putF f v fs).map (·.1)
 | []=>⟨by simp[putF],λg h=>by simp at h⟩
 | (k,x)::r=>by
  obtain⟨i1,i2⟩:=keys_putF f v r
  rw[show putF f v ((k,x)::r)=(if k=f then (k,v)::r else (k,x)::putF f v r) from rfl]
  by_cases hk:k=f
  .subst hk
   exact⟨by simp,λg h=>by simpa using h⟩
  .rw [if_neg hk]
   refine⟨?_,λg h=>?_⟩
   .exact mem_cons_of_mem _ i1
   .rcases mem_cons.mp h with e |e
    .exact mem_cons.mpr (.inl e)
    .exact mem_cons_of_mem _ (i2 g e)
theorem length_putF (f:Str)(v:V):∀fs:List (Str×V),(putF f v fs).length<=fs.length+1
 | []=>by simp[putF]
 | (k,x)::r=>by
  have ih:=length_putF f v r
  rw[show putF f v ((k,x)::r)=(if k=f then (k,v)::r else (k,x)::putF f v r) from rfl]
  by_cases hk:k=f
  .rw [if_pos hk,length_cons,length_cons];lia
  .rw [if_neg hk,length_cons,length_cons];lia
section
variable {P:Program}{w:World}{H H':Hp}{h h':Heap}{a C dx:Addr}{fs fs':List (Str×V)}
theorem ins_get (hok:HOk P w H h)(e:H a=some (.ins C dx fs)):∃mA,ObjM h a dx C mA/\(∀f,RelO (fs.lookup f) (mA f))/\PySem.Within mA (fs.map (·.1))/\fs.length<=1000/\H dx=some (.own a):=by
 obtain⟨d,z,ne,ob,mA,n,r,q⟩:=(show ObjOk P w H h a (.ins C dx fs) from hok a _ e)
 exact⟨mA,⟨ob,n,ne⟩,r,q,z,d⟩
end
structure Cls (K:Frag) (C:Addr):Prop where
 pg:plainGet K C Str.empty=true
 hd:PySem.W.hasDictIn K C=true
 po:plainOver K C=true
 sa:PySem.W.findIn K (.ref C) "__setattr__"=some (some (.builtin "object.__setattr__"))
theorem Cls.get {K:Frag}{C:Addr}(c:Cls K C)(f:Str):plainGet K C f=true:=c.pg
def NoAttr (K:Frag)(C:Addr)(f:Str):Prop:=PySem.W.findIn K (.ref C) f=some none
theorem NoAttr.taker {K:Frag}{C:Addr}{f:Str}(n:NoAttr K C f):takerIn K C f=some none:=by
 unfold takerIn
 rw[show PySem.W.findIn K (.ref C) f=some none from n]
 rfl
structure Meth (K:Frag) (C:Addr) (m:Str) (f:Addr):Prop where
 at_:PySem.W.findIn K (.ref C) m=some (some (.ref f))
 fn:isFn K (.ref f)=true
 kp:keepIn K (.ref f)=true
section
variable {X:Cx}{pins:List (Addr×Obj)}{Y:St}{H:Hp}{s:Shared}{a C dx:Addr}{fs:List (Str×V)}{f:Str}{v:V}{A:Around}{E:Value->Shared->Prop}
theorem setattr_ok {y:V}{u:Value}{Q:Unit->Shared->Prop}(I:Inv X pins Y H s)(e:H a=some (.ins C dx fs))(c:Cls X.K C)(n:NoAttr X.K C f)(hl:fs.length<1000)(ry:RelV y u)
  (h:∀s',Inv X pins Y (upd H a (.ins C dx (putF f y fs))) s'->Q () s'):wpAny (model X.prog X.w) A (setAttr (.ref a) f u) Q E s:=by
 obtain⟨mA,O,r,wi,_,ho⟩:=ins_get I.hok e
 have hz:(fs.map (·.1)).length<=sizeLine:=by rw[length_map,sizeLine_eq];lia
 refine set_map I.kIn O c.sa c.po n.taker c.hd wi hz λh' O' sb=>h _ ?_
 have hd:∃o,h'.get? dx=some o:=let⟨o,_,_,e',_⟩:=O'.ns;⟨o,e'⟩
 refine I.write (by rw[e];exact True.intro) (.inr ho) (λb q hb z=>(sb.2 b hb).trans z) hd ?_
 refine⟨by rw[upd_ne O.ne];exact ho,?_,O.ne,O'.obj,_,O'.ns,λg=>?_,λg hg=>?_⟩
 .have:=length_putF f y fs;lia
 .rw [lookup_putF]
  by_cases q:g=f
  .rw [if_pos q,if_pos q];exact ry
  .rw [if_neg q,if_neg q];exact r g
 .by_cases q:g=f
  .rw [q];exact (keys_putF f y fs).1
  .refine (keys_putF f y fs).2 g (wi g λz=>hg ?_)
   show (if g=f then some u else mA g)=none
   rw[if_neg q];exact z
theorem Inv.made (I:Inv X pins Y H s):Inv X pins Y (upd (upd H s.heap.objs.size (.own (s.heap.objs.size+1))) (s.heap.objs.size+1) (.ins C s.heap.objs.size []))
  {s with heap:=(s.heap.push emptyDict).push (instObj C s.heap.objs.size)}:=by
 have e1:(s.heap.push emptyDict).get? s.heap.objs.size=some emptyDict:=get?_push_size s.heap rfl
 have e2:((s.heap.push emptyDict).push (instObj C s.heap.objs.size)).get? (s.heap.objs.size+1)=some (instObj C s.heap.objs.size):=by
  have:=get?_push_size (s.heap.push emptyDict) (o:=instObj C s.heap.objs.size) rfl
  rwa[size_push]at this
 have e3:(s.heap.push emptyDict).Ns s.heap.objs.size (λ_=>none):=⟨emptyDict,#[],_,e1,rfl,(λe he=>absurd he (by simp)),λ_=>rfl⟩
 have I1:=I.laid (o:=.own (s.heap.objs.size+1)) (h':=s.heap.push emptyDict) (t':=s.toks) (λb u q=>get?_push_of_some _ q) (Nat.le_refl _) ⟨_,e1⟩
 refine I1.laid (a:=s.heap.objs.size+1) (o:=.ins C s.heap.objs.size []) (t':=s.toks) (λb u q=>get?_push_of_some _ q) (Nat.le_of_eq (size_push _ _)) ?_
 have ne:s.heap.objs.size≠s.heap.objs.size+1:=ne_of_lt (Nat.lt_succ_self _)
 refine⟨by rw[upd_ne ne,upd_same],zero_le _,ne,e2,λ_=>none,(Heap.Ns1.of_empty e3).at λo q=>get?_push_of_some _ q,λ_=>True.intro,λy hy=>absurd rfl hy⟩
end
def sFld (K:Frag)(ta tv:TE)(f:Str):TS:=λD Y H=>tv Y H λy H1=>ta Y H1 λx H2=>∃a C dx fs,x = .ref a/\H2 a=some (.ins C dx fs)/\Cls K C/\NoAttr K C f/\fs.length<1000/\
 D.nx Y (upd H2 a (.ins C dx (putF f y fs)))
section
variable {X:Cx}{o e value:Expr}{f:Str}{pos pos' tpos:Pos}{ta tv:TE}
theorem ps_fld (ha:PE X o ta)(hv:PE X value tv)(hs:swapsWith value (some (.Attribute o f pos')) pos.line X.env=pure false):PS X (.Assign [.Attribute o f pos'] value pos) (sFld X.K ta tv f):=by
 intro pins s Y H D I h
 refine plainObj_wpAny_Assign_Attribute (thn (hv pins s Y H _ I h) λu s1 ⟨y,H1,I1,ry,q⟩=>thn (ha pins s1 Y H1 _ I1 q) λov s2 ⟨x,H2,I2,rx,a,C,dx,fs,ex,ea,c,n,l,q2⟩=>?_) hs
 subst ex
 obtain rfl:ov=Value.ref a:=rx
 exact setattr_ok I2 ea c n l ry λs3 I3=>⟨Y,_,I3,q2⟩
end
section
variable {X:Cx}{pins:List (Addr×Obj)}{Y:St}{H:Hp}{s:Shared}{A:Around}{E:Value->Shared->Prop}{Q:Value->Shared->Prop}{c:Value}{b:Bool}
end
structure Room (k:Nat) (A:Around):Prop where
 hd:A.handled=none
 dp:A.depth+3*k+5<recursionLimit
 un:A.units+16*k+200<cLine
theorem Room.mono {j k:Nat}{A:Around}(r:Room k A)(h:j<=k):Room j A:=⟨r.hd,by have:=r.dp;lia,by have:=r.un;lia⟩
theorem Room.deeper {k:Nat}{A:Around}(r:Room (k+1) A)(env:Env):Room k (A.deeper env):=
 ⟨r.hd,by have:=r.dp;show A.depth+1+3*k+5<_;lia,by have:=r.un;show A.units+3+16*k+200<_;lia⟩
theorem make_depth {A:Around}{C:Addr}{us:List Value}{kw:List (Str×Value)}:(A.under (.builtin "type.__call__" ⟨.ref C::us,kw⟩)).depth=A.depth+1:=by
 first |rfl |simp[ guardIds]
theorem make_units {A:Around}{C:Addr}{us:List Value}{kw:List (Str×Value)}:(A.under (.builtin "type.__call__" ⟨.ref C::us,kw⟩)).units=A.units+1:=by
 first |rfl |simp[ Code.isFrame]
theorem Room.make {k:Nat}{A:Around}(r:Room (k+1) A)(C:Addr)(us:List Value)(kw:List (Str×Value)):Room k (A.under (.builtin "type.__call__" ⟨.ref C::us,kw⟩)):=
 ⟨r.hd,by have:=r.dp;rw[make_depth];lia,by have:=r.un;rw[make_units];lia⟩
theorem Room.depth {k:Nat}{A:Around}(r:Room k A):A.depth<recursionLimit:=by have:=r.dp;lia
theorem Room.units {k:Nat}{A:Around}(r:Room k A):A.units+64<cLine:=by have:=r.un;lia
def tNil:TA:=λ_ H Q=>Q [] H
def tCons (ta:TE)(tr:TA):TA:=λY H Q=>ta Y H λx H1=>tr Y H1 λxs H2=>Q (x::xs) H2
section
variable {X:Cx}{e:Expr}{es:List Expr}{te:TE}{t:TA}{pos:Pos}
theorem pa_nil:PA X [] tNil:=λ_ _ _ _ H Q I h=>Calls.spliced_nil ⟨[],H,I,.nil,h⟩
theorem pa_cons (ha:PE X e te)(hr:PA X es t)(hs:starEach (e::es) X.env=(false,eval e X.env)::starEach es X.env:=by rfl):PA X (e::es) (tCons te t):=by
 intro pos pins s Y H Q I h
 rw[hs]
 refine Calls.spliced_cons (thn (ha pins s Y H _ I h) λu s1 ⟨x,H1,I1,r1,q1⟩=>?_)
 exact thn (hr pos pins s1 Y H1 _ I1 q1) λus s2 ⟨xs,H2,I2,r2,q2⟩=>⟨x::xs,H2,I2,.cons r1 r2,q2⟩
end
abbrev Sp:=List V->Hp->VK->XK->Prop
abbrev CXT:=List Env->Hp->Shared->XK->Value->Shared->Prop
structure Env0 (P:Program) (w:World) (K:Frag) (mg:Str->Option Value) (base:Heap) (A:Around) (outer:List Env) (s:Shared) (H:Hp):Prop where
 frames:A.frames=some outer
 mod:Mod K mg base
 bs:∀b o,base.get? b=some o->s.heap.get? b=some o/\H b=none
 bsz:base.objs.size<=s.heap.objs.size
 funs:s.heap.FunFrames base outer
 frf:∀b∈frs outer,H b=none
 hok:HOk P w H s.heap
 bare:AllBare s.gens
def CE (outer:List Env)(P:Program)(w:World)(H:Hp)(s:Shared)(Q:VK)(u:Value)(s':Shared):Prop:=
 ∃v H',s'.os=s.os/\AllBare s'.gens/\Un (frs outer) [] H H' s.heap s'.heap/\HOk P w H' s'.heap/\RelV v u/\Q v H'
def CR (CX:CXT)(outer:List Env)(P:Program)(w:World)(H:Hp)(s:Shared)(Q:VK)(E:XK)(r:Result)(s':Shared):Prop:=
 match r with
 | .ok (.ret u)=>CE outer P w H s Q u s'
 | .ok _=>False
 | .error e=>CX outer H s E e s'
structure FnOk (P:Program) (w:World) (K:Frag) (mg:Str->Option Value) (base:Heap) (CX:CXT) (k:Nat) (f:Addr) (fd:FuncData) (ps:List Str) (sp:Sp):Prop where
 len:∀vs H Q E,sp vs H Q E->vs.length=ps.length
 run:∀(A:Around) (outer:List Env) (s:Shared) (H:Hp) (args:Args) (us:List Value) (vs:List V) (Q:VK) (E:XK),Room k A->Env0 P w K mg base A outer s H->BindsTo s fd args (ps.zip us)->Vals vs us->sp vs H Q E->
  codeAny (model P w) A (.call (.ref f) args) (CR CX outer P w H s Q E) s
theorem Env0.make {P:Program}{w:World}{K:Frag}{mg:Str->Option Value}{base:Heap}{A:Around}{outer:List Env}{s:Shared}{H:Hp}(e:Env0 P w K mg base A outer s H)(C:Addr)(us:List Value)(kw:List (Str×Value)):
  Env0 P w K mg base (A.under (.builtin "type.__call__" ⟨.ref C::us,kw⟩)) outer s H:=⟨by first |exact e.frames | (simpa[ pushEnvs] using e.frames),e.mod,e.bs,e.bsz,e.funs,e.frf,e.hok,e.bare⟩
section
variable {X:Cx}{pins:List (Addr×Obj)}{Y:St}{H:Hp}{s s':Shared}
theorem Inv.env0 (I:Inv X pins Y H s):Env0 X.prog X.w X.K X.mg X.base X.A X.stack s H:=
 ⟨I.ok.frames,I.ok.mod,I.bs,le_trans I.ok.bsz I.sz,I.stack,I.stkFree,I.hok,I.bare⟩
theorem Inv.after {Q:VK}{u:Value}(I:Inv X pins Y H s)(h:CE X.stack X.prog X.w H s Q u s'):EP X pins Y Q u s':=by
 obtain⟨v,H',os,bare,un,hok,r,q⟩:=h
 obtain⟨hh,g,d,t,os'⟩:=s'
 obtain rfl:os'=s.os:=os
 exact⟨v,H',I.call (h':=hh) (g':=g) (d':=d) (t':=t) (ch:=[]) un hok bare (λb z=>absurd z (by simp)),r,q⟩
end
def tCall (sp:Sp)(dvs:List V)(E:XK)(t:TA):TE:=λY H Q=>t Y H λvs H1=>sp (vs++dvs) H1 Q E
def tMake (C:Addr)(sp:Sp)(dvs:List V)(E:XK)(t:TA):TE:=λY H Q=>t Y H λvs H1=>∀x dx,H1 x=none->H1 dx=none->dx≠x->
 sp (.ref x::(vs++dvs)) (upd (upd H1 dx (.own x)) x (.ins C dx [])) (λv H2=>v = .non/\Q (.ref x) H2) E
def Binds (K:Frag)(fd:FuncData)(ps:List Str)(ds:List Value):Prop:=
 ∀(s:Shared) (us:List Value),K.In s.heap->(us++ds).length=ps.length->BindsTo s fd ⟨us,[]⟩ (ps.zip (us++ds))
theorem Binds.all {K:Frag}{fd:FuncData}{ps:List Str}(h:∀us:List Value,us.length=ps.length->bindArgs fd ⟨us,[]⟩=pure (ps.zip us)):Binds K fd ps []:=λs us _ hl=>by
 rw[append_nil]at hl ⊢
 exact .of_eq (h us hl)
def Passes (CX:CXT)(X:Cx)(E:XK):Prop:=∀(pins:List (Addr×Obj)) (Y:St) (H:Hp) (s:Shared) (e:Value) (s':Shared),Inv X pins Y H s->CX X.stack H s E e s'->X.xe e s'
section
variable {X:Cx}{CX:CXT}{k:Nat}{f C:Addr}{fd:FuncData}{ps:List Str}{sp:Sp}{dvs:List V}{ds:List Value}{E:XK}{x m:Str}{p pos apos:Pos}{e o:Expr}{es:List Expr}{ta:TE}{t:TA}
theorem run_fn {pins:List (Addr×Obj)}{Y:St}{H:Hp}{s:Shared}{Q:VK}{us:List Value}{vs:List V}(F:FnOk X.prog X.w X.K X.mg X.base CX k f fd ps sp)(hr:Room k X.A)(hb:Binds X.K fd ps ds)(hd:Vals dvs ds)(hx:Passes CX X E)
  (I:Inv X pins Y H s) (r:Vals vs us) (h:sp (vs++dvs) H Q E):wpAny (model X.prog X.w) X.A (call (.ref f) us) (EP X pins Y Q) X.xe s:=by
 have r2:Vals (vs++dvs) (us++ds):=r.append hd
 have hl:(us++ds).length=ps.length:=by rw[<- r2.length];exact F.len _ _ _ _ h
 refine wpAny_call (codeAny_mono (F.run X.A X.stack s H ⟨us,[]⟩ (us++ds) (vs++dvs) Q E hr I.env0 (hb s us I.kIn hl) r2 h) λr s' hq=>?_)
 cases r with
 |error e=>exact hx pins Y H s e s' I hq
 |ok fl=>
  cases fl with
  |ret u=>exact I.after hq
  |next=>exact False.elim hq
  |brk=>exact False.elim hq
  |cont=>exact False.elim hq
theorem pe_call (F:FnOk X.prog X.w X.K X.mg X.base CX k f fd ps sp)(hr:Room k X.A)(hg:Gl X x)(hm:X.mg x=some (.ref f))(hk:keepIn X.K (.ref f)=true)(hb:Binds X.K fd ps ds)(hd:Vals dvs ds)(hx:Passes CX X E)
  (ha:PA X (e::es) t) (hdb:(x==("__debug__":Str))=false:=by decide) (he:starEach (e::es) X.env=(false,eval e X.env)::starEach es X.env:=by rfl) (hpl:(backTo pos (starEach es X.env)).any (·.1)=false:=by rfl):
  PE X (.Call (.Name x p) (e::es) [] pos) (tCall sp dvs E t):=by
 intro pins s Y H Q I h
 refine wpAny_Call_Name_kw (ld_glob I hg hm ?_ hdb)
 refine callWith_K I.ok.mod.kin hk (thn (ha pos pins s Y H _ I h) λus s1 ⟨vs,H1,I1,r,q⟩=>⟨I1.kIn,?_⟩) he hpl
 exact run_fn F hr hb hd hx I1 r q
structure Mk (K:Frag) (C f:Addr):Prop where
 makes:makesIn K C=true
 init:PySem.W.findIn K (.ref C) "__init__"=some (some (.ref f))
 fn:isFn K (.ref f)=true
 kp:keepIn K (.ref C)=true
theorem run_make {pins:List (Addr×Obj)}{Y:St}{H:Hp}{s:Shared}{Q:VK}{us:List Value}{vs:List V}(M:Mk X.K C f)(F:FnOk X.prog X.w X.K X.mg X.base CX k f fd ps sp)(hr:Room (k+1) X.A)(hb:Binds X.K fd ps ds)(hd:Vals dvs ds)
  (hx:Passes CX X E) (I:Inv X pins Y H s) (r:Vals vs us)
  (h:∀x dx,H x=none->H dx=none->dx≠x->sp (.ref x::(vs++dvs)) (upd (upd H dx (.own x)) x (.ins C dx [])) (λv H2=>v = .non/\Q (.ref x) H2) E):
  wpAny (model X.prog X.w) X.A (call (.ref C) us) (EP X pins Y Q) X.xe s:=by
 have hq:=h (s.heap.objs.size+1) s.heap.objs.size (I.hok.fresh (le_succ _)) (I.hok.fresh (Nat.le_refl _)) (ne_of_lt (Nat.lt_succ_self _))
 have I2:=Inv.made (C:=C) I
 have r2:Vals (V.ref (s.heap.objs.size+1)::(vs++dvs)) (Value.ref (s.heap.objs.size+1)::(us++ds)):=.cons rfl (r.append hd)
 have hl:(Value.ref (s.heap.objs.size+1)::us++ds).length=ps.length:=by
  have e:=r2.length
  rw[F.len _ _ _ _ hq]at e
  exact e.symm
 refine wpAny_call (make_map I.kIn M.makes M.init (beq_iff_eq.mp M.fn) (codeAny_mono (F.run _ X.stack _ _ ⟨Value.ref (s.heap.objs.size+1)::us,[]⟩ (Value.ref (s.heap.objs.size+1)::(us++ds)) _ _ E (hr.make C us [])
  (I2.env0.make C us []) (hb _ (Value.ref (s.heap.objs.size+1)::us) I2.kIn hl) r2 hq) λr s' hq'=>?_))
 cases r with
 |error e=>exact hx pins Y _ _ e s' I2 hq'
 |ok fl=>
  cases fl with
  |ret u=>
   obtain⟨v,H',I3,rv,ev,q3⟩:=I2.after hq'
   subst ev
   exact⟨rv,⟨V.ref (s.heap.objs.size+1),H',I3,rfl,q3⟩⟩
  |next=>exact False.elim hq'
  |brk=>exact False.elim hq'
  |cont=>exact False.elim hq'
theorem pe_make (M:Mk X.K C f)(F:FnOk X.prog X.w X.K X.mg X.base CX k f fd ps sp)(hr:Room (k+1) X.A)(hg:Gl X x)(hm:X.mg x=some (.ref C))(hb:Binds X.K fd ps ds)(hd:Vals dvs ds)(hx:Passes CX X E)
  (ha:PA X (e::es) t) (hdb:(x==("__debug__":Str))=false:=by decide) (he:starEach (e::es) X.env=(false,eval e X.env)::starEach es X.env:=by rfl) (hpl:(backTo pos (starEach es X.env)).any (·.1)=false:=by rfl):
  PE X (.Call (.Name x p) (e::es) [] pos) (tMake C sp dvs E t):=by
 intro pins s Y H Q I h
 refine wpAny_Call_Name_kw (ld_glob I hg hm ?_ hdb)
 refine callWith_K I.ok.mod.kin M.kp (thn (ha pos pins s Y H _ I h) λus s1 ⟨vs,H1,I1,r,q⟩=>⟨I1.kIn,?_⟩) he hpl
 exact run_make M F hr hb hd hx I1 r q
end
section
variable {X:Cx}{CX:CXT}{k:Nat}{f C:Addr}{fd:FuncData}{ps ks:List Str}{sp:Sp}{E:XK}{x m:Str}{p pos apos kpos:Pos}{e o:Expr}{es:List Expr}{kws:List Keyword}{te ta:TE}{t tk:TA}{nm:Option Str}
structure KBinds (K:Frag) (fd:FuncData) (ps ks:List Str) (g:List Value->List Value->List Value) (gV:List V->List V->List V):Prop where
 to:∀(s:Shared) (us ws:List Value),K.In s.heap->(g us ws).length=ps.length->BindsTo s fd ⟨us,ks.zip ws⟩ (ps.zip (g us ws))
 rel:∀{vs:List V} {us:List Value} {zs:List V} {ws:List Value},Vals vs us->Vals zs ws->Vals (gV vs zs) (g us ws)
variable {g:List Value->List Value->List Value}{gV:List V->List V->List V}
end
structure FnScope (N P:List Str) (sc:Scope):Prop where
 kind:sc.kind = .function
 co:sc.isCoroutine=false
 gen:sc.isGenerator=false
 nd:N.Nodup
 pre:N.take P.length=P
 par:∀x∈P,sc.names.lookup x=some .local∨sc.names.lookup x=some .cell
 nofree:∀y∈sc.names,y.2≠.free
theorem bindL_out {kindOf:Str->Option NameKind}{x:Str}:∀{binds:List (Str×Value)} {m:Str->Option Value},(∀v,(x,v)∉binds)->bindL kindOf binds m x=m x
 | [],_,_=>rfl
 | (n,v)::r,m,h=>by
  unfold bindL
  rw[bindL_out λw hw=>h w (mem_cons_of_mem _ hw)]
  split
  .have:x≠n:=by rintro rfl;exact h v mem_cons_self
   simp[this]
  .rfl
theorem bindC_out {kindOf:Str->Option NameKind}{x:Str}:∀{binds:List (Str×Value)} {m:Str->Option Value},(∀v,(x,v)∉binds)->bindC kindOf binds m x=m x
 | [],_,_=>rfl
 | (n,v)::r,m,h=>by
  unfold bindC
  rw[bindC_out λw hw=>h w (mem_cons_of_mem _ hw)]
  split
  .rfl
  .have:x≠n:=by rintro rfl;exact h v mem_cons_self
   simp[this]
theorem bindL_get {kindOf:Str->Option NameKind}{x:Str}{v:Value}:∀{P:List Str} {vs:List Value} {i:Nat} {m:Str->Option Value},P.Nodup->P[i]?=some x->vs[i]?=some v->kindOf x=some .local->
  bindL kindOf (P.zip vs) m x=some v
 | [],_,_,_,_,h,_,_=>by simp at h
 |_::_,[],_,_,_,_,h,_=>by simp at h
 |p::P,w::vs,0,m,nd,h1,h2,hk=>by
  simp at h1 h2;subst h1;subst h2
  show bindL kindOf ((p,w)::P.zip vs) m p=_
  unfold bindL
  rw[bindL_out λv hv=>(nodup_cons.mp nd).1 (of_mem_zip hv).1,if_pos hk]
  simp
 |p::P,w::vs,i+1,m,nd,h1,h2,hk=>by
  unfold bindL
  exact bindL_get (nodup_cons.mp nd).2 h1 h2 hk
theorem bindC_get {kindOf:Str->Option NameKind}{x:Str}{v:Value}:∀{P:List Str} {vs:List Value} {i:Nat} {m:Str->Option Value},P.Nodup->P[i]?=some x->vs[i]?=some v->kindOf x≠some .local->
  bindC kindOf (P.zip vs) m x=some v
 | [],_,_,_,_,h,_,_=>by simp at h
 |_::_,[],_,_,_,_,h,_=>by simp at h
 |p::P,w::vs,0,m,nd,h1,h2,hk=>by
  simp at h1 h2;subst h1;subst h2
  show bindC kindOf ((p,w)::P.zip vs) m p=_
  unfold bindC
  rw[bindC_out λv hv=>(nodup_cons.mp nd).1 (of_mem_zip hv).1,if_neg hk]
  simp
 |p::P,w::vs,i+1,m,nd,h1,h2,hk=>by
  unfold bindC
  exact bindC_get (nodup_cons.mp nd).2 h1 h2 hk
def start (N:List Str)(vs:List V):St:=vs.map some++List.replicate (N.length-vs.length) none
def cxOf (CX:CXT)(P:Program)(w:World)(K:Frag)(mg:Str->Option Value)(base:Heap)(N:List Str)(qual:Str)(scope:Scope)(f:Addr)(cd:Value)(A:Around)(outer:List Env)(s:Shared)(H:Hp)(E:XK):Cx where
 prog:=P
 w:=w
 K:=K
 mg:=mg
 base:=base
 A:=A.deeper (envOfC qual scope s.heap.objs.size f cd)
 N:=N
 s₀:=s
 H₀:=H
 env:=envOfC qual scope s.heap.objs.size f cd
 outer:=outer
 stack:=envOfC qual scope s.heap.objs.size f cd::outer
 ex:=[]
 calm:=true
 fn:=λ_=>true
 pn:=[]
 xe:=λe s'=>wpAny (model P w) (A.deeper (envOfC qual scope s.heap.objs.size f cd)) (leaving (envOfC qual scope s.heap.objs.size f cd) e) (λ_ s''=>CX outer H s E e s'') (λe' s''=>CX outer H s E e' s'') s'
theorem cell_has {sc:Scope}{n:Nat}{x:Str}(h:sc.names.lookup x=some .cell):∃c,(cellsFrom n sc.names []).lookup x=some c:=by
 have q:=cellsFrom_some sc.names n [] (.inl h)
 exact Option.isSome_iff_exists.mp q
theorem inv_start {CX:CXT}{P:Program}{w:World}{K:Frag}{mg:Str->Option Value}{base:Heap}{N ps:List Str}{qual:Str}{scope:Scope}{f:Addr}{cd:Value}{A:Around}{outer:List Env}{s s1:Shared}{H:Hp}{E:XK}{us:List Value}{vs:List V}
  (S:FnScope N ps scope) (hd:A.handled=none) (e0:Env0 P w K mg base A outer s H) (hl:vs.length=ps.length) (r:Vals vs us)
  (x:InCallC s s.heap.objs.size (bindL (envOfC qual scope s.heap.objs.size f cd).kindOf (ps.zip us) λ_=>none) (cellsFrom (s.heap.objs.size+1) scope.names []) (bindC (envOfC qual scope s.heap.objs.size f cd).kindOf (ps.zip us) λ_=>none) s1):
  Inv (cxOf CX P w K mg base N qual scope f cd A outer s H E) [] (start N vs) H s1:=by
 have hpl:ps.length<=N.length:=by have:=congrArg List.length S.pre;rw[length_take]at this;lia
 obtain⟨h1,tk,rfl,hk⟩:=x.done
 have noA:∀b:Addr,b∉(cxOf CX P w K mg base N qual scope f cd A outer s H E).ex:=λb z=>absurd (show b∈([]:List Addr) from z) (by simp)
 refine⟨⟨e0.mod,S.kind,rfl,rfl,Nat.le_refl _,λy z c h1 h2=>?_,λy hy=>?_,λy c _ h=>?_,λ_=>hd,Around.frames_deeper e0.frames,.inr ⟨rfl,rfl⟩,λb z=>absurd z (noA b),e0.bs,e0.bsz,λb _ _=>noA b,λb z=>absurd z (noA b),e0.funs,e0.frf⟩,
  rfl,e0.bare,Un.kept hk,⟨_,x.toInCall.ns,λi y v h1 h2 h3=>?_⟩,λy c h=>⟨_,x.cell y c h⟩,e0.hok.fresh (Nat.le_refl _),λy c h=>?_,λp hp=>absurd (show p∈([]:List (Addr×Obj)) from hp) (by simp),e0.hok.kept hk,?_⟩
 .exact name_of_addr x.apart (PySem.mem_of_lookup h1) (PySem.mem_of_lookup h2)
 .rcases hy with hy |hy
  .exact cell_has hy
  .exact absurd rfl (S.nofree _ (PySem.mem_of_lookup hy))
 .exact le_of_lt (x.above y c (PySem.mem_of_lookup h))
 .have hi:i<vs.length:=by
   unfold start at h2
   by_cases hi:i<vs.length
   .exact hi
   .rw [getElem?_append_right (by simpa using hi)]at h2
    rw[List.getElem?_replicate]at h2
    split at h2<;>cases h2
  have ha:vs[i]?=some v:=by
   unfold start at h2
   rw[getElem?_append_left (by simpa using hi),getElem?_map]at h2
   cases e:vs[i]? with
   |none=>rw[e]at h2;cases h2
   |some a=>rw[e]at h2;cases h2;rfl
  obtain⟨u,hu,rv⟩:=r.get ha
  have hp:ps[i]?=some y:=by
   rw[<- S.pre,List.getElem?_take_of_lt (by lia)];exact h1
  have ndP:ps.Nodup:=by rw[<- S.pre];exact S.nd.sublist (List.take_sublist _ _)
  refine⟨u,rv,?_⟩
  rcases S.par y (mem_of_getElem? hp) with k |k
  .exact .inl ⟨k,bindL_get ndP hp hu k⟩
  .obtain ⟨c,e⟩:=cell_has (n:=s.heap.objs.size+1) k
   refine .inr ⟨.inl k,c,e,?_⟩
   have q:=x.cell y c e
   rw[bindC_get ndP hp hu (by show scope.names.lookup y≠_;rw[k];decide)]at q
   exact q
 .exact e0.hok.fresh (le_of_lt (x.above y c (PySem.mem_of_lookup h)))
 .unfold start
  show _=N.length
  rw[length_append,length_map,length_replicate]
  lia
theorem fn_of {CX:CXT}{P:Program}{w:World}{K:Frag}{mg:Str->Option Value}{base:Heap}{k:Nat}{f:Addr}{name qual:Str}{params:Arguments}{body:List Stmt}{scope:Scope}{dV kV doc pm cdv ct oc:Value}{an od:Option Addr}
  {osl:Array (Option Value)} {N ps:List Str} {sp:Sp} (lk:K.lookup f=some ⟨oc,od,.func (fnOf name qual params body scope dV kV doc pm an cdv ct),osl⟩) (hcd:codeIn K cdv qual=true) (S:FnScope N ps scope)
  (len:∀vs H Q E,sp vs H Q E->vs.length=ps.length)
  (hbody:∀(A:Around) (outer:List Env) (s:Shared) (H:Hp) (vs:List V) (Q:VK) (E:XK),Room k (A.deeper (envOfC qual scope s.heap.objs.size f cdv))->sp vs H Q E->
   ∃t,PSs (cxOf CX P w K mg base N qual scope f cdv A outer s H E) body t/\t {nx:=λ_ H'=>Q .non H',rt:=Q} (start N vs) H):
  FnOk P w K mg base CX (k+1) f (fnOf name qual params body scope dV kV doc pm an cdv ct) ps sp:=by
 refine⟨len,λA outer s H args us vs Q E hr e0 hb r hsp=>?_⟩
 have hl:=len _ _ _ _ hsp
 have KX:K.In s.heap:=e0.mod.kin.keeps λb o e=>(e0.bs b o e).1
 have lim:s.heap.NoLimit:=e0.mod.nolimit.keeps λb o e=>(e0.bs b o e).1
 have hkind:∀y∈ps.zip us,scope.names.lookup y.1=some .local∨(scope.names.lookup y.1=some .cell/\((cellsFrom (s.heap.objs.size+1) scope.names []).lookup y.1).isSome=true):=λ⟨n,v⟩ hy=>by
  rcases S.par n (of_mem_zip hy).1 with q |q
  .exact .inl q
  .exact .inr ⟨q,cellsFrom_some _ _ _ (.inl q)⟩
 refine codeAny_call_function hr.depth (KX _ _ lk) rfl S.co S.gen rfl (codeRec_of KX hcd) (hb _ _ _ _ ?_)
 refine wpAny_newFunctionEnv_cells S.kind hkind λenv he s1 x=>?_
 subst he
 refine⟨lim.keeps x.toInCall.keep,codeAny_func ?_⟩
 obtain⟨t,ht,hq⟩:=hbody A outer s H vs Q E (hr.deeper _) hsp
 have I:Inv (cxOf CX P w K mg base N qual scope f cdv A outer s H E) [] (start N vs) H s1:=inv_start S hr.hd e0 hl r x
 refine wpAny_mono (ht [] s1 (start N vs) H _ I hq) (λfl s' hs=>?_) λe s' hs=>hs
 have fin:∀{Y':St} {H':Hp} {v:V} {u:Value},Inv (cxOf CX P w K mg base N qual scope f cdv A outer s H E) [] Y' H' s'->RelV v u->Q v H'->CE outer P w H s Q u s':=
  λ{Y' H' v u} J rv q=>⟨v,H',J.os,J.bare,J.base,J.hok,rv,q⟩
 cases fl with
 |ret u=>
  obtain⟨v,Y',H',J,rv,q⟩:=hs
  exact fin J rv q
 |next=>
  obtain⟨Y',H',J,q⟩:=hs
  exact fin (v:=V.non) J rfl q
 |brk=>
  obtain⟨_,_,_,q⟩:=hs
  exact False.elim q
 |cont=>
  obtain⟨_,_,_,q⟩:=hs
  exact False.elim q
section
variable {X:Cx}{x:Str}{p pos:Pos}{e:Expr}{es:List Expr}{t:TA}{id T:String}{r:List V->Hp->VK->Prop}
def tCB (r:List V->Hp->VK->Prop)(t:TA):TE:=λY H Q=>t Y H λvs H1=>r vs H1 Q
theorem pe_callB (hc:CallR X (.builtin id) r)(hg:Gl X x)(hm:X.mg x=none)(hv:bootBuiltins x=some (.builtin id))(ha:PA X (e::es) t)(hn:x ≠ "__name__":=by decide)(hdb:(x==("__debug__":Str))=false:=by decide)
  (he:starEach (e::es) X.env=(false,eval e X.env)::starEach es X.env:=by rfl) (hpl:(backTo pos (starEach es X.env)).any (·.1)=false:=by rfl):PE X (.Call (.Name x p) (e::es) [] pos) (tCB r t):=by
 intro pins s Y H Q I h
 refine wpAny_Call_Name_kw (ld_blt I hg hm hv ?_ hn hdb)
 exact PyProof.Rows.callWith_builtin1 (thn (ha pos pins s Y H _ I h) λus s1 ⟨vs,H1,I1,r1,q1⟩=>hc pins s1 Y H1 vs us Q I1 r1 q1) he hpl
theorem pe_callTy (hc:CallR X (.type T) r)(hg:Gl X x)(hm:X.mg x=none)(hv:bootBuiltins x=some (.type T))(ha:PA X (e::es) t)(hn:x ≠ "__name__":=by decide)(hdb:(x==("__debug__":Str))=false:=by decide)
  (he:starEach (e::es) X.env=(false,eval e X.env)::starEach es X.env:=by rfl) (hpl:(backTo pos (starEach es X.env)).any (·.1)=false:=by rfl):PE X (.Call (.Name x p) (e::es) [] pos) (tCB r t):=by
 intro pins s Y H Q I h
 refine wpAny_Call_Name_kw (ld_blt I hg hm hv ?_ hn hdb)
 exact PyProof.Rows.callWith_type1 (thn (ha pos pins s Y H _ I h) λus s1 ⟨vs,H1,I1,r1,q1⟩=>hc pins s1 Y H1 vs us Q I1 r1 q1) he hpl
end
end L2
namespace HT
open PySem PyProof.Rows
section
open PySem.SeqAt
open PySem.AutoSeq1 (wpAny_loadPart')
open PySem.MeetsSeq PySem.MeetsSeq2 PySem.MeetsSeq3
end
section
variable {prog:Program}{w:World}{A:Around}{E:Value->Shared->Prop}{s:Shared}
def sIx (n d:Nat):Option Int->Nat
 |none=>d
 |some v=>if v<0 then (v+(n:Int)).toNat else min v.toNat n
end
end HT
namespace L2
open PySem PySem.Spec PyProof.Rows
abbrev TO:=St->Hp->(Option Int->Hp->Prop)->Prop
def PO (X:Cx)(e:Option Expr)(t:TO):Prop:=
 ∀(pins:List (Addr×Obj)) (s:Shared) (Y:St) (H:Hp) (Q:Option Int->Hp->Prop),Inv X pins Y H s->t Y H Q->
  wpAny (model X.prog X.w) X.A (evalPart e X.env) (λu s'=>∃o H',Inv X pins Y H' s'/\IsPart u o/\Q o H') X.xe s
def tNoPart:TO:=λ_ H Q=>Q none H
def tPart (t:TE):TO:=λY H Q=>t Y H λx H1=>∃i,x = .int i/\Q (some i) H1
section
variable {X:Cx}{e:Expr}{te:TE}{lo hi:Option Expr}{tl th:TO}{pos p2:Pos}
theorem po_none:PO X none tNoPart:=by
 intro pins s Y H Q I h
 exact wpAny_pure ⟨none,H,I,.none,h⟩
theorem po_some (h:PE X e te):PO X (some e) (tPart te):=by
 intro pins s Y H Q I hw
 refine thn (h pins s Y H _ I hw) λu s1 ⟨x,H1,I1,r1,q1⟩=>?_
 obtain⟨i,rfl,q⟩:=q1
 obtain⟨t,rfl⟩:=r1
 exact⟨some i,H1,I1,.int i t,q⟩
def SlR (X:Cx)(r:V->Option Int->Option Int->Hp->VK->Prop):Prop:=
 ∀(pins:List (Addr×Obj)) (s:Shared) (Y:St) (H:Hp) (x:V) (v vl vu:Value) (lo hi:Option Int) (sl:Addr) (Q:VK),Inv X pins Y H s->RelV x v->s.heap.IsSliceOf sl vl vu .none->IsPart vl lo->IsPart vu hi->r x lo hi H Q->
  ∃T id,typeLookup (.type T) "__getitem__"=pure (some (.builtin id))/\s.TypeIs v T/\wpAny (model X.prog X.w) X.A (getItem v (.ref sl)) (EP X pins Y Q) X.xe s
def tSl (r:V->Option Int->Option Int->Hp->VK->Prop)(te:TE)(tl th:TO):TE:=λY H Q=>te Y H λx H1=>tl Y H1 λl H2=>th Y H2 λu H3=>r x l u H3 Q
theorem pe_slice {r:V->Option Int->Option Int->Hp->VK->Prop}(hr:SlR X r)(he:PE X e te)(hl:PO X lo tl)(hu:PO X hi th):PE X (.Subscript e (.Slice lo hi none p2) pos) (tSl r te tl th):=by
 intro pins s Y H Q I h
 refine Subscript_ (thn (he pins s Y H _ I h) λv s1 ⟨x,H1,I1,r1,q1⟩=>?_)
 refine wpAny_Slice (thn (hl pins s1 Y H1 _ I1 q1) λvl s2 ⟨l,H2,I2,pl,q2⟩=>thn (hu pins s2 Y H2 _ I2 q2) λvu s3 ⟨u,H3,I3,pu,q3⟩=>?_)
 refine wpAny_pure ?_
 have I4:Inv X pins Y H3 {s3 with heap:=s3.heap.push {cls:=.type "slice",data:=.fields #[vl,vu,.none]}}:=I3.kept (t':=s3.toks) λb ob q=>get?_push_of_some _ q
 obtain⟨T,id,hT,ht,hg⟩:=hr pins {s3 with heap:=s3.heap.push {cls:=.type "slice",data:=.fields #[vl,vu,.none]}} Y H3 x v vl vu l u s3.heap.objs.size Q I4 r1 (Heap.IsSliceOf.new ..) pl pu q3
 exact tail_any (ops:=[.ref s3.heap.objs.size,v]) ht hT hg (by with_unfolding_all rfl)
def cutV (xs:List V)(lo hi:Option Int):List V:=(xs.drop (HT.sIx xs.length 0 lo)).take (HT.sIx xs.length xs.length hi-HT.sIx xs.length 0 lo)
theorem cutV_length (xs:List V)(lo hi:Option Int):(cutV xs lo hi).length<=xs.length:=by
 unfold cutV
 rw[length_take,length_drop]
 lia
end
def ixN (n:Nat)(i:Int):Option Nat:=if 0<=i then (if i<n then some i.toNat else none) else if -(n:Int)<=i then some (i+n).toNat else none
def atI {α:Type}(xs:List α)(i:Int):Option α:=(ixN xs.length i).bind λj=>xs[j]?
theorem ixN_seq {n:Nat}{i:Int}{j:Nat}(h:ixN n i=some j):seqIndex? i n=some j/\j<n/\-(n:Int)<=i/\i<n:=by
 unfold ixN at h
 by_cases h0:0<=i
 .rw [if_pos h0]at h
  by_cases h1:i<n
  .rw [if_pos h1]at h
   have e:i.toNat=j:=Option.some.inj h
   exact⟨by rw[seqIndex_of h0 h1,e],by lia,by lia,h1⟩
  .rw [if_neg h1]at h;cases h
 .rw [if_neg h0]at h
  by_cases h1 : -(n:Int)<=i
  .rw [if_pos h1]at h
   have e:(i+n).toNat=j:=Option.some.inj h
   exact⟨by rw[seqIndex_neg (by lia) h1,e],by lia,h1,by lia⟩
  .rw [if_neg h1]at h;cases h
theorem atI_get {α:Type}{xs:List α}{i:Int}{v:α}(h:atI xs i=some v):∃j,seqIndex? i xs.length=some j/\xs[j]?=some v/\j<xs.length/\-(xs.length:Int)<=i/\i<xs.length:=by
 unfold atI at h
 cases e:ixN xs.length i with
 |none=>rw[e]at h;cases h
 |some j=>
  rw[e]at h
  obtain⟨h1,h2,h3,h4⟩:=ixN_seq e
  exact⟨j,h1,h,h2,h3,h4⟩
theorem atI_nat {α:Type}{xs:List α}{j:Nat}{v:α}(h:xs[j]?=some v):atI xs (j:Int)=some v:=by
 have hj:j<xs.length:=(List.getElem?_eq_some_iff.mp h).1
 have e:ixN xs.length (j:Int)=some j:=by
  unfold ixN
  rw[if_pos (by lia),if_pos (by lia)];simp
 unfold atI;rw[e];exact h
def PlainIx (b:Expr):Prop:=∀o i,subscripted b false o i=operate [o,i] (getItem o i)
def IxR (X:Cx)(r:R2):Prop:=
 ∀(value slice:Expr) (pins:List (Addr×Obj)) (s:Shared) (Y:St) (H:Hp) (x y:V) (v u:Value) (Q:VK),Inv X pins Y H s->RelV x v->RelV y u->r x y H Q->
  subscripted slice false v u=operate [v,u] (getItem v u)->wpAny (model X.prog X.w) X.A (subscriptTail value slice v u) (EP X pins Y Q) X.xe s
def MtR (X:Cx)(id:String)(r:V->List V->Hp->VK->Prop):Prop:=
 ∀(pins:List (Addr×Obj)) (s:Shared) (Y:St) (H:Hp) (x:V) (xs:List V) (v:Value) (us:List Value) (Q:VK),Inv X pins Y H s->RelV x v->Vals xs us->r x xs H Q->
  wpAny (model X.prog X.w) X.A (call (.builtin id) (v::us)) (EP X pins Y Q) X.xe s
section
variable {X:Cx}{a b:Expr}{ta tb:TE}{pos:Pos}
theorem pe_ix {r:R2}(hr:IxR X r)(ha:PE X a ta)(hb:PE X b tb)(hs:PlainIx b):PE X (.Subscript a b pos) (tOp r ta tb):=by
 intro pins s Y H Q I h
 exact Subscript_ (binT ha hb I h λv u s2 x y H2 I2 rx ry q=>hr a b pins s2 Y H2 x y v u Q I2 rx ry q (hs _ _))
def rIxL (K:Frag):R2:=λx y H Q=>∃p xs i v,x = .ref p/\y = .int i/\SqL K H p xs/\atI xs i=some v/\Q v H
def rIxT (K:Frag):R2:=λx y H Q=>∃p xs i v,x = .ref p/\y = .int i/\SqT K H p xs/\atI xs i=some v/\Q v H
theorem ix_list:IxR X (rIxL X.K):=by
 intro value slice pins s Y H x y v u Q I rx ry h hs
 obtain⟨p,xs,i,z,rfl,rfl,hq,he,q⟩:=h
 cases rx
 obtain⟨t,rfl⟩:=ry
 obtain⟨its,r,pl,hz⟩:=I.list hq
 obtain⟨j,h1,h2,h3,h4,h5⟩:=atI_get he
 obtain⟨w,ew,rw'⟩:=r.get h2
 have hl:=r.length
 have hn:=line63
 have fin:EP X pins Y Q w s:=⟨z,H,I,rw',q⟩
 by_cases h0:0<=i
 .have hj:i.toNat=j:=by
   rw[seqIndex_of h0 h5]at h1
   exact Option.some.inj h1
  exact item_listR pl.isList h0 (by lia) (by rw[hj];simpa using ew) fin hs
 .have hj:(i+(its.toArray.size:Int)).toNat=j:=by
   rw[seqIndex_neg (by lia) h4]at h1
   rw[size_toArray,<- hl]
   exact Option.some.inj h1
  exact subscriptTail_builtinR pl.isList.typeIs slot_list_getitem.lookup
   (wpAny_getItem_list_neg (Q:=λr s'=>r=w/\EP X pins Y Q r s') pl.isList (by lia) (by rw[size_toArray]<;>lia) (by lia) (by rw[hj];simpa using ew) ⟨rfl,fin⟩) hs
theorem ix_tup:IxR X (rIxT X.K):=by
 intro value slice pins s Y H x y v u Q I rx ry h hs
 obtain⟨p,xs,i,z,rfl,rfl,hq,he,q⟩:=h
 cases rx
 obtain⟨t,rfl⟩:=ry
 obtain⟨its,r,pl,hz⟩:=I.tuple hq
 obtain⟨j,h1,h2,h3,h4,h5⟩:=atI_get he
 obtain⟨w,ew,rw'⟩:=r.get h2
 have hl:=r.length
 have hn:=line63
 have fin:EP X pins Y Q w s:=⟨z,H,I,rw',q⟩
 exact subscriptTail_builtinR pl.typeIs slot_tuple_getitem.lookup
  (getItem_tuple (Q:=λr s'=>r=w/\EP X pins Y Q r s') pl (by lia) (by lia) (by rw[size_toArray,<- hl];exact h1) (by simpa using ew) ⟨rfl,fin⟩) hs
theorem mapSeq_set (its:List Value)(n j:Nat)(u:Value):Obj.mapSeq (·.setIfInBounds j u) {cls:=.type "list",data:=.seq its.toArray n}={cls:=.type "list",data:=.seq (its.set j u).toArray n}:=by
 simp[Obj.mapSeq]
theorem Inv.lst {pins:List (Addr×Obj)}{Y:St}{H:Hp}{s:Shared}{p:Addr}{xs:List V}(I:Inv X pins Y H s)(h:H p=some (.lst xs)):
  ∃(its:List Value) (n:Nat),Vals xs its/\s.heap.get? p=some {cls:=.type "list",data:=.seq its.toArray n}/\xs.length<=sizeLine:=by
 obtain⟨z,its,n,r,e⟩:=I.hok p _ h
 exact⟨its,n,r,e,z⟩
theorem Inv.lstUpd {pins:List (Addr×Obj)}{Y:St}{H:Hp}{s:Shared}{p:Addr}{xs ys:List V}{its its':List Value}{n n':Nat}{f:Obj->Obj}(I:Inv X pins Y H s)(h:H p=some (.lst xs))
  (ho:s.heap.get? p=some {cls:=.type "list",data:=.seq its.toArray n}) (hf:f {cls:=.type "list",data:=.seq its.toArray n}={cls:=.type "list",data:=.seq its'.toArray n'}) (r:Vals ys its') (hz:ys.length<=sizeLine) (t:Nat):
  Inv X pins Y (upd H p (.lst ys)) {s with heap:=s.heap.update p f,toks:=t}:=by
 have e:(s.heap.update p f).get? p=some {cls:=.type "list",data:=.seq its'.toArray n'}:=by
  rw[get?_update_self f ho (by rw[hf]<;>rfl),hf]
 refine I.write (by rw[h];trivial) (.inl rfl) (λb u hb q=>(get?_update_other _ _ (Ne.symm hb)).trans q) ⟨_,e⟩ ?_
 exact⟨hz,its',n',r,e⟩
def rSetL:V->V->V->Hp->(Hp->Prop)->Prop:=λo i v H Q=>∃p xs k j,o = .ref p/\i = .int k/\H p=some (.lst xs)/\ixN xs.length k=some j/\Q (upd H p (.lst (xs.set j v)))
theorem set_list:PSet X rSetL:=by
 intro pins s Y H o i v ov iv u Q I ro ri rv h
 obtain⟨p,xs,k,j,rfl,rfl,hp,hj,q⟩:=h
 cases ro
 obtain⟨t,rfl⟩:=ri
 obtain⟨its,n,r,ho,hz⟩:=I.lst hp
 obtain⟨h1,h2,h3,h4⟩:=ixN_seq hj
 have hl:=r.length
 have hn:=line63
 have I':Inv X pins Y (upd H p (.lst (xs.set j v))) {s with heap:=s.heap.update p (Obj.mapSeq (·.setIfInBounds j u))}:=
  I.lstUpd hp ho (mapSeq_set its n j u) (r.set rv j) (by rw[length_set];exact hz) s.toks
 by_cases h0:0<=k
 .have hk:k.toNat=j:=by
   rw[seqIndex_of h0 h4]at h1
   exact Option.some.inj h1
  exact PySem.W.ki_setAt ho h0 (by lia) (by rw[size_toArray,<- hl];exact h4) (by rw[hk];exact⟨_,I',q⟩)
 .have hk:(k+(its.toArray.size:Int)).toNat=j:=by
   rw[seqIndex_neg (by lia) h3]at h1
   rw[size_toArray,<- hl]
   exact Option.some.inj h1
  exact PySem.W.ki_setBack ho (by lia) (by rw[size_toArray,<- hl];exact h3) (by lia) (by rw[hk];exact⟨_,I',q⟩)
theorem slice_bounds (lo hi:Option Int)(n:Nat):(sliceBounds lo hi none n).1=((HT.sIx n 0 lo:Nat):Int)/\(sliceBounds lo hi none n).2.1=((HT.sIx n n hi:Nat):Int)/\(sliceBounds lo hi none n).2.2=1:=by
 refine⟨?_,?_,rfl⟩
 .cases lo with
  |none=>simp[sliceBounds,HT.sIx]
  |some i=>
   simp only[sliceBounds,HT.sIx,getD_none,if_true]
   by_cases h:i<0
   .simp only[h,if_true]<;>lia
   .simp only[h,if_false]<;>lia
 .cases hi with
  |none=>simp[sliceBounds,HT.sIx]
  |some i=>
   simp only[sliceBounds,HT.sIx,getD_none,if_true]
   by_cases h:i<0
   .simp only[h,if_true]<;>lia
   .simp only[h,if_false]<;>lia
theorem slicePick_cut (its:List Value)(lo hi:Option Int):slicePick its.toArray lo hi none=((its.drop (HT.sIx its.length 0 lo)).take (HT.sIx its.length its.length hi-HT.sIx its.length 0 lo)).toArray:=by
 obtain⟨h1,h2,h3⟩:=slice_bounds lo hi its.toArray.size
 unfold slicePick
 rw[h1,h2,h3]
 simp only[sliceRange_one,pick_run]<;>rfl
def rSlL (K:Frag):V->Option Int->Option Int->Hp->VK->Prop:=λx lo hi H Q=>∃a xs,x = .ref a/\SqL K H a xs/\∀p,H p=none->Q (.ref p) (upd H p (.lst (cutV xs lo hi)))
theorem sl_list:SlR X (rSlL X.K):=by
 intro pins s Y H x v vl vu lo hi sl Q I rx hs pl pu h
 obtain⟨a,xs,rfl,hx,q⟩:=h
 cases rx
 obtain⟨its,r,ht,hz⟩:=I.list hx
 have hlen:=r.length
 refine⟨"list",_,slot_list_getitem.lookup,ht.isList.typeIs,?_⟩
 refine wpAny_getItem_list_slice ht.isList hs pl pu .none (by simp) ?_ (by rw[size_toArray]<;>lia)
 rw[slicePick_cut,<- hlen]
 refine⟨.ref s.heap.objs.size,_,I.laid (t':=s.toks) (o:=.lst (cutV xs lo hi)) (λb ob q=>get?_push_of_some _ q) (Nat.le_refl _) ?_,rfl,q _ (I.hok.fresh (Nat.le_refl _))⟩
 exact⟨le_trans (cutV_length xs lo hi) hz,_,0,(r.drop (HT.sIx xs.length 0 lo)).take (HT.sIx xs.length xs.length hi-HT.sIx xs.length 0 lo),get?_push_size _ rfl⟩
def flatV:V->Bool
 | .non=>true
 | .bl _=>true
 | .int _=>true
 | .str _=>true
 |_=>false
def eqV:V->V->Bool
 | .non,.non=>true
 | .bl a,.bl b=>a==b
 | .bl a,.int b=>(if a then 1 else 0)==b
 | .int a,.bl b=>a==(if b then 1 else 0)
 | .int a,.int b=>a==b
 | .str a,.str b=>a==b
 |_,_=>false
theorem eqAt_V {A:Around}{s:Shared}{y x:V}{u v:Value}(ry:RelV y u)(rx:RelV x v)(fy:flatV y=true)(fx:flatV x=true):SeqAt.EqAt A s u v (eqV y x):=by
 cases y with
 |non=>
  cases ry
  cases x with
  |non=>cases rx;exact SeqAt.EqAt.same _
  |bl b=>cases rx;exact SeqAt.EqAt.none_bool b
  |int b=>obtain⟨t,rfl⟩:=rx;exact SeqAt.EqAt.none_int b t
  |str b=>obtain⟨t,rfl⟩:=rx;exact SeqAt.EqAt.none_str b t
  |_=>exact absurd (show false=true from fx) Bool.false_ne_true
 |bl a=>
  cases ry
  cases x with
  |non=>cases rx;exact SeqAt.EqAt.bool_none a
  |bl b=>cases rx;exact SeqAt.EqAt.bool_bool a b
  |int b=>obtain⟨t,rfl⟩:=rx;exact SeqAt.EqAt.bool_int a b t
  |str b=>obtain⟨t,rfl⟩:=rx;exact SeqAt.EqAt.bool_str a b t
  |_=>exact absurd (show false=true from fx) Bool.false_ne_true
 |int a=>
  obtain⟨t',rfl⟩:=ry
  cases x with
  |non=>cases rx;exact SeqAt.EqAt.int_none a t'
  |bl b=>cases rx;exact SeqAt.EqAt.int_bool a t' b
  |int b=>obtain⟨t,rfl⟩:=rx;exact SeqAt.EqAt.int_int a t' b t
  |str b=>obtain⟨t,rfl⟩:=rx;exact SeqAt.EqAt.int_str a t' b t
  |_=>exact absurd (show false=true from fx) Bool.false_ne_true
 |str a=>
  obtain⟨t',rfl⟩:=ry
  cases x with
  |non=>cases rx;exact SeqAt.EqAt.str_none a t'
  |bl b=>cases rx;exact SeqAt.EqAt.str_bool a t' b
  |int b=>obtain⟨t,rfl⟩:=rx;exact SeqAt.EqAt.str_int a t' b t
  |str b=>obtain⟨t,rfl⟩:=rx;exact SeqAt.EqAt.str_str a t' b t
  |_=>exact absurd (show false=true from fx) Bool.false_ne_true
 |_=>exact absurd (show false=true from fy) Bool.false_ne_true
theorem call_len_seq:CallR X (.builtin "len") (λxs H Q=>∃p ys,xs=[.ref p]/\(SqL X.K H p ys∨SqT X.K H p ys)/\Q (.int ys.length) H):=by
 intro pins s Y H xs us Q I r h
 obtain⟨p,ys,rfl,hq,q⟩:=h
 obtain⟨u,rfl,rx⟩:=vals1 r
 cases rx
 have hn:=line63
 rcases hq with hq |hq
 .obtain ⟨its,r',pl,hz⟩:=I.list hq
  have hlen:=r'.length
  exact Calls.call_len_list pl.isList (by simp only[size_toArray]<;>lia) ⟨.int ys.length,H,I.tok _,⟨s.toks+1,by rw[size_toArray,hlen]⟩,q⟩
 .obtain ⟨its,r',pl,hz⟩:=I.tuple hq
  have hlen:=r'.length
  exact len_tuple pl (by simp only[size_toArray]<;>lia) ⟨.int ys.length,H,I.tok _,⟨s.toks+1,by rw[size_toArray,hlen]⟩,q⟩
theorem call_len_str:CallR X (.builtin "len") (λxs H Q=>∃z,xs=[.str z]/\z.length<=sizeLine/\Q (.int z.length) H):=by
 intro pins s Y H xs us Q I r h
 obtain⟨z,rfl,hz,q⟩:=h
 obtain⟨u,rfl,t,rfl⟩:=vals1 r
 have hn:=line63
 exact len_str (by lia) ⟨.int z.length,H,I.tok _,⟨_,rfl⟩,q⟩
theorem call_list_of:CallR X (.type "list") (λxs H Q=>∃p ys,xs=[.ref p]/\(SqL X.K H p ys∨SqT X.K H p ys)/\∀l,H l=none->Q (.ref l) (upd H l (.lst ys))):=by
 intro pins s Y H xs us Q I r h
 obtain⟨p,ys,rfl,hq,q⟩:=h
 obtain⟨u,rfl,rx⟩:=vals1 r
 cases rx
 have fin:∀(its:List Value),Vals ys its->ys.length<=sizeLine->∀(h':Heap) (c':Nat),(∀b o',s.heap.get? b=some o'->h'.get? b=some o')->
   h'.get? s.heap.objs.size=some {cls:=.type "list",dict:=none,data:=.seq its.toArray c',slots:=#[]}->EP X pins Y Q (.ref s.heap.objs.size) {s with heap:=h'}:=λits r' hz h' c' kp e=>
  ⟨.ref s.heap.objs.size,_,I.laid (t':=s.toks) kp (Nat.le_refl _) (show ObjOk X.prog X.w _ h' _ (.lst ys) from⟨hz,its,c',r',e⟩),rfl,q _ (I.hok.fresh (Nat.le_refl _))⟩
 rcases hq with hq |hq
 .obtain ⟨its,r',pl,hz⟩:=I.list hq
  have hlen:=r'.length
  obtain⟨o,ho,hc,n,hd⟩:=pl.isList
  exact call_list_seq p (.inl rfl) ho hc hd (λh' c' kp e=>fin its r' hz h' c' kp e) (by simp only[size_toArray]<;>lia)
 .obtain ⟨its,r',pl,hz⟩:=I.tuple hq
  have hlen:=r'.length
  obtain⟨o,ho,hc,n,hd⟩:=pl
  exact call_list_seq p (.inr rfl) ho hc hd (λh' c' kp e=>fin its r' hz h' c' kp e) (by simp only[size_toArray]<;>lia)
def tyV (K:Frag)(T:String)(x:V)(H:Hp):Prop:=match x with
 | .str _=>T = "str"
 | .int _=>T = "int"
 | .ref p=>(T = "list"/\∃xs,SqL K H p xs)∨(T = "tuple"/\∃o,K.lookup p=some o/\o.cls = .type "tuple"/\o.dict=none)∨
   (T = "dict"/\((∃kvs,H p=some (.dK kvs))∨∃kvs,H p=some (.dT kvs)))∨(T = "set"/\∃S n,H p=some (.set S n))
 |_=>False
theorem tyV_is {pins:List (Addr×Obj)}{Y:St}{H:Hp}{s:Shared}{T:String}{x:V}{v:Value}(I:Inv X pins Y H s)(r:RelV x v)(ty:tyV X.K T x H):
  s.TypeIs v T/\∀a,v = .ref a->∃ob,s.heap.get? a=some ob/\ob.dict=none:=by
 cases x with
 |str z=>
  obtain⟨t,rfl⟩:=r
  cases (show T = "str" from ty)
  exact⟨typeIs_str s z t,λ_ e=>nomatch e⟩
 |int i=>
  obtain⟨t,rfl⟩:=r
  cases (show T = "int" from ty)
  exact⟨typeIs_int s i t,λ_ e=>nomatch e⟩
 |ref p =>
  cases r
  rcases ty with⟨rfl,xs,hq⟩ | ⟨rfl,o,hk,hc,hd⟩ | ⟨rfl,hk⟩ | ⟨rfl,S,n,hk⟩
  .obtain ⟨its,_,pl,_⟩:=I.list hq
   refine⟨pl.isList.typeIs,λa e=>?_⟩
   cases e
   obtain⟨o,n,e,c,hd,_⟩:=pl
   exact⟨o,e,hd⟩
  .refine ⟨⟨o,I.kIn p o hk,hc⟩,λa e=>?_⟩
   cases e
   exact⟨o,I.kIn _ o hk,hd⟩
  .have z:∃o,s.heap.get? p=some o/\o.ExactDict:=by
    rcases hk with⟨kvs,hk⟩ | ⟨kvs,hk⟩
    .obtain ⟨_,_,_,_,o,_,_,e,ex,_⟩:=I.hok p _ hk
     exact⟨o,e,ex⟩
    .obtain ⟨_,_,_,_,o,_,_,e,ex,_⟩:=I.hok p _ hk
     exact⟨o,e,ex⟩
   obtain⟨o,e,ex⟩:=z
   refine⟨⟨o,e,ex.1⟩,λa e2=>?_⟩
   cases e2
   exact⟨o,e,ex.2.1⟩
  .obtain ⟨o,_,_,_,e,ex,_⟩:=I.hok p _ hk
   refine⟨⟨o,e,ex.1⟩,λa e2=>?_⟩
   cases e2
   exact⟨o,e,ex.2.1⟩
 |_=>exact False.elim ty
def tBM0 (K:Frag)(T:String)(r:V->List V->Hp->VK->Prop)(to:TE):TE:=λY H Q=>to Y H λx H1=>tyV K T x H1/\r x [] H1 Q
def tBM (K:Frag)(T:String)(r:V->List V->Hp->VK->Prop)(to:TE)(t:TA):TE:=λY H Q=>to Y H λx H1=>tyV K T x H1/\t Y H1 λxs H2=>r x xs H2 Q
variable {o e:Expr}{es:List Expr}{to:TE}{t:TA}{name:Str}{apos cpos:Pos}{T id:String}{r:V->List V->Hp->VK->Prop}
theorem pe_bm0 (pa:PlainAttrs T)(slot:Slot T name id)(hty:typeOf (.builtin id)=pure (.type "method_descriptor"))(hm:MtR X id r)(ho:PE X o to)
  (hbase:attributeBase o name X.env (eval o X.env)=eval o X.env:=by rfl) (hline:(apos.endLine==cpos.line)=true:=by rfl):PE X (.Call (.Attribute o name apos) [] [] cpos) (tBM0 X.K T r to):=by
 intro pins s Y H Q I h
 refine wpAny_Call_method0_late hbase hline (thn (ho pins s Y H _ I h) λv s1 ⟨x,H1,I1,r1,ty,q1⟩=>?_)
 obtain⟨h1,h2⟩:=tyV_is I1 r1 ty
 exact⟨T,id,pa,slot,hty,h1,h2,Calls.callWith_builtin rfl (PySem.evalArgs_none (hm pins s1 Y H1 x [] v [] Q I1 r1 .nil q1))⟩
theorem pe_bm (pa:PlainAttrs T)(slot:Slot T name id)(hty:typeOf (.builtin id)=pure (.type "method_descriptor"))(hm:MtR X id r)(ho:PE X o to)(ha:PA X (e::es) t)
  (hbase:attributeBase o name X.env (eval o X.env)=eval o X.env:=by rfl)
  (hfew:((backTo cpos (starEach (e::es) X.env)).all (λx => !x.1) && (backToKw cpos (keywordEach [] X.env)).all (λx=>x.1.isSome)
   && decide ((e::es).length+([]:List Keyword).length+(if ([]:List Keyword).isEmpty then 0 else 1)<30))=true:=by rfl)
  (hline:(apos.endLine==cpos.line)=true:=by rfl) (hs:starEach (e::es) X.env=(false,eval e X.env)::starEach es X.env:=by rfl) (hplain:(backTo cpos (starEach es X.env)).any (·.1)=false:=by rfl):
  PE X (.Call (.Attribute o name apos) (e::es) [] cpos) (tBM X.K T r to t):=by
 intro pins s Y H Q I h
 refine wpAny_Call_method_late hbase hfew hline rfl (thn (ho pins s Y H _ I h) λv s1 ⟨x,H1,I1,r1,ty,q1⟩=>?_)
 obtain⟨h1,h2⟩:=tyV_is I1 r1 ty
 refine⟨T,id,pa,slot,hty,h1,h2,?_⟩
 have hA:=ha cpos pins s1 Y H1 _ I1 q1
 rw[hs]at hA ⊢
 refine Calls.callWith_builtin (by show (false || (backTo cpos (starEach es X.env)).any (·.1))=false;rw[hplain]<;>rfl) (Calls.evalArgs_plain ?_)
 exact thn hA λus s2 ⟨vs,H2,I2,r2,q2⟩=>hm pins s2 Y H2 x vs v us Q I2 r1 r2 q2
end
def MtM (X:Cx)(id:String)(r:V->List V->Hp->VK->Prop):Prop:=
 ∀(pins:List (Addr×Obj)) (s:Shared) (Y:St) (H:Hp) (x:V) (xs:List V) (v:Value) (us:List Value) (Q:VK),Inv X pins Y H s->RelV x v->Vals xs us->r x xs H Q->
  wpAny (model X.prog X.w) X.A (call (.builtin id) (v::us)) (EP X pins Y Q) X.xe s
theorem Vals.one:∀{x:V} {us:List Value},Vals [x] us->∃u,us=[u]/\RelV x u
 |_,_,.cons r .nil=>⟨_,rfl,r⟩
theorem Vals.eraseIdx:∀{xs:List V} {us:List Value} (i:Nat),Vals xs us->Vals (xs.eraseIdx i) (us.eraseIdx i)
 |_,_,_,.nil=>.nil
 |_,_,0,.cons _ t=>t
 |_,_,i+1,.cons r t=>.cons r (Vals.eraseIdx i t)
theorem Vals.reverse {xs:List V}{us:List Value}(h:Vals xs us):Vals xs.reverse us.reverse:=by
 induction h with
 |nil=>exact .nil
 |cons r t ih=>rw[List.reverse_cons,List.reverse_cons];exact Vals.append ih (.cons r .nil)
theorem Vals.rep {xs:List V}{us:List Value}(h:Vals xs us):∀k:Nat,Vals (List.replicate k xs).flatten (List.replicate k us).flatten
 | 0=>.nil
 |k+1=>by
  exact Vals.append h (Vals.rep h k)
theorem len_erase {α:Type}:∀(l:List α) (i:Nat),(l.eraseIdx i).length<=l.length
 | [],_=>Nat.le_refl _
 |_::_,0=>le_succ _
 |_::r,i+1=>Nat.succ_le_succ (len_erase r i)
theorem foldl_rep (its:List Value):∀(k:Nat) (acc:List Value),
  List.foldl (λx1 x2=>x1++x2) acc.toArray (List.replicate k its.toArray)=(acc++(List.replicate k its).flatten).toArray
 | 0,acc=>by simp
 |k + 1,acc=>by
  have e:acc.toArray++its.toArray=(acc++its).toArray:=by simp
  have e2:(acc++its)++(List.replicate k its).flatten=acc++(List.replicate (k+1) its).flatten:=by
   rw[replicate_succ,List.flatten_cons,List.append_assoc]
  rw[<- e2,<- foldl_rep its k (acc++its),<- e,replicate_succ,List.foldl_cons]
section
variable {X:Cx}{pins:List (Addr×Obj)}{Y:St}{H:Hp}{s:Shared}{l b:Addr}{xs ys zs:List V}
theorem Inv.lset {its its':List Value}{n:Nat}{f:Array Value->Array Value}{t':Nat}(I:Inv X pins Y H s)(hH:H l=some (.lst xs))
  (e:s.heap.get? l=some {cls:=.type "list",data:=.seq its.toArray n}) (hf:f its.toArray=its'.toArray) (hv:Vals ys its') (hz:ys.length<=sizeLine):
  Inv X pins Y (upd H l (.lst ys)) {s with heap:=s.heap.update l (Obj.mapSeq f),toks:=t'}:=by
 have q:=PySem.IsL.update e f
 rw[hf]at q
 refine I.write (by rw[hH];exact trivial) (.inl rfl) (λb' u hb hu=>(get?_update_other s.heap (Obj.mapSeq f) (Ne.symm hb)).trans hu) ⟨_,q⟩ ?_
 exact⟨hz,its',_,hv,q⟩
theorem Inv.lnew {its:List Value}{t':Nat}(I:Inv X pins Y H s)(hv:Vals ys its)(hz:ys.length<=sizeLine):
  Inv X pins Y (upd H s.heap.objs.size (.lst ys)) {s with heap:=s.heap.push {cls:=.type "list",data:=.seq its.toArray},toks:=t'}:=
 I.laid (λ_ _ q=>get?_push_of_some _ q) (Nat.le_refl _) ⟨hz,its,0,hv,get?_push_size _ rfl⟩
theorem Inv.fresh (I:Inv X pins Y H s):H s.heap.objs.size=none:=I.hok.fresh (Nat.le_refl _)
theorem Inv.lstM (I:Inv X pins Y H s)(hH:H l=some (.lst xs)):xs.length<=sizeLine/\∃(its:List Value) (n:Nat),Vals xs its/\xs.length=its.length/\s.heap.get? l=some {cls:=.type "list",data:=.seq its.toArray n}:=by
 obtain⟨z,its,n,r,e⟩:=I.hok l _ hH
 exact⟨z,its,n,r,r.length,e⟩
theorem notLongL {n:Nat}(h:n<=sizeLine):Builtin.List.listTooLong n=false:=by
 exact decide_eq_false (by lia)
end
section
variable {X:Cx}
def rAppend:V->List V->Hp->VK->Prop:=λx vs H Q=>∃l xs y,x = .ref l/\vs=[y]/\H l=some (.lst xs)/\xs.length<sizeLine/\Q .non (upd H l (.lst (xs++[y])))
theorem mt_append:MtM X "list.append" rAppend:=by
 intro pins s Y H x vs v us Q I rx rv h
 obtain⟨l,xs,y,rfl,rfl,hH,hz,q⟩:=h
 cases rx
 obtain⟨u,rfl,ru⟩:=rv.one
 obtain⟨z,its,n,r,hl,e⟩:=I.lstM hH
 refine call_meets F.slot_list_append ⟨_,e,rfl⟩ F.entry_list_append (F.args_list_append_2 _ _) (PySem.list_append l its.toArray n u (by rw[size_toArray];lia)) ⟨e,?_⟩
 refine⟨.non,_,I.lset (its':=its++[u]) hH e (by simp) (r.append (.cons ru .nil)) ?_,rfl,q⟩
 rw[length_append,length_singleton]
 lia
def rPopAt:V->List V->Hp->VK->Prop:=λx vs H Q=>∃l xs i k y,x = .ref l/\vs=[.int i]/\H l=some (.lst xs)/\-(2^63)<=i/\i<2^63/\seqIndex? i xs.length=some k/\xs[k]?=some y/\Q y (upd H l (.lst (xs.eraseIdx k)))
theorem mt_popAt:MtM X "list.pop" rPopAt:=by
 intro pins s Y H x vs v us Q I rx rv h
 obtain⟨l,xs,i,k,y,rfl,rfl,hH,h1,h2,hk,hy,q⟩:=h
 cases rx
 obtain⟨u,rfl,ru⟩:=rv.one
 obtain⟨t,rfl⟩:=ru
 obtain⟨z,its,n,r,hl,e⟩:=I.lstM hH
 obtain⟨w,hw,rw'⟩:=r.get hy
 refine call_meets F.slot_list_pop ⟨_,e,rfl⟩ F.entry_list_pop (F.args_list_pop_2 _ _)
  (MeetsSeq.list_pop_at l its.toArray n i t k w (fitsIndex_both h1 h2) (by rw[size_toArray,<- hl];exact hk) (by rw[<- Array.getElem?_toList];exact hw) (by rw[size_toArray];lia)) ⟨e,?_⟩
 refine⟨y,_,I.lset (its':=its.eraseIdx k) hH e ?_ (r.eraseIdx k) ?_,rw',q⟩
 .rw [List.eraseIdxIfInBounds_toArray]
 .have:=len_erase xs k
  lia
def rRep:R2:=λx y H Q=>∃l k xs,x = .ref l/\y = .int k/\H l=some (.lst xs)/\-(2^63)<=k/\k<2^63/\xs.length*k.toNat<=sizeLine/\
 ∀p,H p=none->Q (.ref p) (upd H p (.lst (List.replicate k.toNat xs).flatten))
theorem len_rep {α:Type}(xs:List α)(k:Nat):(List.replicate k xs).flatten.length=k*xs.length:=by
 induction k with
 |zero=>simp
 |succ k ih=>rw[replicate_succ,List.flatten_cons,length_append,ih,Nat.succ_mul,Nat.add_comm]
theorem op_rep:OpR X (binaryOp .Mult) rRep:=by
 intro pins s Y H x y v u Q I rx ry h
 obtain⟨l,k,xs,rfl,rfl,hH,h1,h2,hz,q⟩:=h
 cases rx
 obtain⟨t,rfl⟩:=ry
 obtain⟨z,its,n,r,hl,e⟩:=I.lstM hH
 have hlen:its.toArray.size*k.toNat<=sizeLine:=by rw[size_toArray,<- hl];exact hz
 have hcap:¬ its.toArray.size*k.toNat > (2^63-1) / 8:=by
  have:(sizeLine:Nat)<=(2^63-1) / 8:=by decide
  lia
 have hfit:¬ (!Builtin.List.listFitsIndex k)=true:=by
  rw[fitsIndex_both h1 h2]
  exact Bool.false_ne_true
 have hlong:¬ Builtin.List.listTooLong (its.toArray.size*k.toNat)=true:=by
  rw[notLongL hlen]
  exact Bool.false_ne_true
 have hnew:List.foldl (λx1 x2=>x1++x2) #[] (List.replicate (if its.toArray.isEmpty=true then 0 else k.toNat) its.toArray)=(List.replicate k.toNat its).flatten.toArray:=by
  have f0:∀m:Nat,List.foldl (λx1 x2=>x1++x2) #[] (List.replicate m its.toArray)=(List.replicate m its).flatten.toArray:=λm=>by
   have:=foldl_rep its m []
   exact this
  rw[f0]
  cases its with
  |nil=>simp
  |cons a r'=>rw[if_neg (by simp)]
 refine wpAny_binaryOp_repeat_ref (T := "list") (U := "int") rfl ⟨_,e,rfl⟩ (λs'=>typeIs_int s' k t) noFill_list_mul F.fills_int_mul F.slot_int_rmul repeat_list F.slot_int_index.lookup
  (call_meets F.slot_int_rmul (typeIs_int s k t) F.entry_int_rmul (F.args_int_rmul_2 _ _) (int___rmul___int_list k t l its.toArray n)
   ⟨e,rfl,⟨_,e,rfl⟩,call_meets F.slot_list_mul ⟨_,e,rfl⟩ F.entry_list_mul (F.args_list_mul_2 _ _) (AutoListH.list___mul___list_int_3 l its.toArray n k t hfit hcap hlong) ⟨e,?_⟩⟩)
 rw[hnew]
 exact⟨.ref _,_,I.lnew (t':=s.toks) (r.rep k.toNat) (by rw[len_rep,Nat.mul_comm];exact hz),rfl,q _ I.fresh⟩
end
section
variable {prog:Program}{w:World}{A:Around}{E:Value->Shared->Prop}{s:Shared}
set_option maxRecDepth 100000 in
end
section
variable {X:Cx}
end
end L2
namespace Att
open PySem PySem.W PySem.Calls PyProof.Rows
theorem ints_of_wellAll {P:Params}{h:Heap}:∀(ns:List Int) (vs:List Value),WellAll P h vs (ns.map WData.int)->IntsAre vs ns:=by
 intro ns
 induction ns with
 |nil=>
  intro vs w
  cases w
  exact .nil
 |cons n ns ih=>
  intro vs w
  cases w with
  |cons a b=>
   cases a
   exact .cons _ _ (ih _ b)
theorem script_of {l:OpenLaw}{n:Nat}(hn:l.most=some n){P:Params}{h:Heap}{args:List WData}{vals:List Value}
  (hpre:l.row.toRowW.claim.pre args=true) (hwl:WellAll P h vals args):
  ∃a vs ns,vals=[Value.ref a]/\args=[WData.list (ns.map WData.int)]/\h.get? a=some {cls:=.type "list",data:=.seq vs.toArray}/\IntsAre vs ns/\ns.length<=n:=by
 have hsh:WShape.hasAll [] args [.list .int]=true:=(pre_splitW hpre).1
 have hc:l.pre.holds [] {args:=args}=true:=(pre_splitW hpre).2
 obtain⟨d,r,rfl,h1,h2⟩:=hasAllW_cons hsh
 obtain rfl:=hasAllW_nil h2
 obtain⟨xs,rfl,h3⟩:=hasW_list h1
 obtain⟨ns,rfl⟩:=items_int h3
 have hlen:ns.length<=n:=by
  have h4:(WTm.not (.lt (.lit (.int (n:Int))) (.len (.arg 0)))).holds [] {args:=[.list (ns.map .int)]}=true:=by
   have h4:=(holds_andW hc).1
   rw[hn]at h4
   exact h4
  have h5:=condW_of h4 (w_not (w_lt w_lit (w_len_list (w_arg rfl))))
  refine Nat.le_of_not_lt λq=>?_
  first
   | (rw[decide_eq_true q']at h5;exact absurd h5 rfl)
   | (simp at h5;lia)
 cases hwl with
 |cons w1 w2=>
  cases w2
  cases w1 with
  |list ho hall=>exact⟨_,_,ns,rfl,rfl,ho,ints_of_wellAll ns _ hall,hlen⟩
theorem post_true (l:OpenLaw)(args:List WData):l.row.toRowW.claim.post args (.bool true) args=true:=
 postW_of (X:=(true==true))
  (show WShape.has [] (.bool true) .bool=true by first |rfl |decide |simp[ WShape.armsAll])
  (show (WTm.eq .res (.lit (.bool true))).value [] {args:=args,res:=some (.bool true),after:=args}=some (.bool (true==true)) from w_eq_bool (w_res rfl) w_lit) rfl
theorem attach_call {l:OpenLaw}{n:Nat}{q:Program}{loose:List Str}{XP:(Str->Option Value)->Heap->Prop}{YP:World->Heap->Prop}{d:DefRec}
  (hn:l.most=some n) (hdf:d.params.defaults=[])
  (call:∀(w:World) (s₀ s₁:Shared) (mg mb:Str->Option Value) (fa:Addr) (o:Obj) (pm cd doc:Value) (a:Addr) (vs:List Value) (ns:List Int),
   Ground q loose [] XP w s₀ mg mb s₁.heap->YP w s₁.heap->
   s₁.heap.get? fa=some o->o.data = .func (docDef d.name d.params d.body d.scope pm cd doc)->s₁.heap.CodeRec cd d.name->mg d.name=some (.ref fa)->
   s₁.heap.get? a=some {cls:=.type "list",data:=.seq vs.toArray}->IntsAre vs ns->ns.length<=n->s₁.gens=#[]->
   codeAny (model l.prog w) callerA (.call (.ref fa) ⟨[.ref a],[]⟩) (λr s'=>r = .ok (.ret (.bool true))/\OldK s₁.heap s'.heap/\s'.os=s₁.os/\AllBare s'.gens) s₁):
  WalkO q loose XP YP l.row.toRowW d [] (λf vs=>PySem.call f vs):=by
 intro w s₀ s₁ mg mb δ σ fa o pm cd doc dV kV ho hd hcd hD hmg hg args vals as hpre hlay hrd hwl hlo
 obtain rfl:dV = .none:=Dflts.none hD hdf
 obtain rfl:kV = .none:=Dflts.noKw hD
 obtain⟨a,vs,ns,rfl,rfl,hobj,hints,hlen⟩:=script_of hn hpre hwl
 refine enter_call (codeAny_mono (call w s₀ s₁ mg mb fa o pm cd doc a vs ns δ σ ho (fd_plain hd) hcd hmg hobj hints hlen hg) λr s' hq=>?_)
 obtain⟨rfl,h2,h3,h4⟩:=hq
 exact⟨.inl ⟨.bool true,.bool true,[],rfl,λ_=>rfl,.bool true,post_true l _,λ_=>⟨List.Pairwise.nil,λ_ hm=>(nomatch hm)⟩⟩,h2,h3,h4⟩
section
variable {prog:Program}{w:World}{A:Around}{E:Value->Shared->Prop}{s:Shared}{K:Frag}
end
end Att
namespace L2
open PySem PySem.Spec PyProof.Rows
theorem vals_ints:∀{vs:List Value} {ns:List Int},IntsAre vs ns->Vals (ns.map V.int) vs
 |_,_,.nil=>.nil
 |_,_,.cons n t h=>.cons ⟨t,rfl⟩ (vals_ints h)
def Only (H:Hp):Prop:=∀b,H b=none∨∃o xs,H b=some (.frz o (.lst xs))
theorem law_call {P:Program}{w:World}{K:Frag}{mg mb:Str->Option Value}{CX:CXT}{k:Nat}{fa a:Addr}{fd:FuncData}{x:Str}{sp:Sp}{s₁:Shared}{vs:List Value}{ns:List Int}
  (KX:K.In s₁.heap) (hns:s₁.heap.Ns mainGlobals mg) (hb:s₁.heap.Ns builtinsNs mb) (hbb:∀x:Str,x ≠ "__name__"->mb x=bootBuiltins x) (hlim:s₁.heap.NoLimit) (hg:s₁.gens=#[])
  (ha:s₁.heap.get? a=some {cls:=.type "list",data:=.seq vs.toArray}) (hi:IntsAre vs ns) (hl:ns.length<=sizeLine) (hr:Room k callerA)
  (F:∀base:Heap,K.In base->base.Ns mainGlobals mg->FnOk P w K mg base CX k fa fd [x] sp) (hbind:∀(s:Shared) (u:Value),BindsTo s fd ⟨[u],[]⟩ [(x,u)])
  (hsp:∀H:Hp,Only H->SqL K H a (ns.map V.int)->sp [.ref a] H (λv _=>v = .bl true) λ_ _ _=>False)
  (hCX:∀H e s',CX [] H s₁ (λ_ _ _=>False) e s'->False):
  codeAny (model P w) callerA (.call (.ref fa) ⟨[.ref a],[]⟩) (λr s'=>r = .ok (.ret (.bool true))/\OldK s₁.heap s'.heap/\s'.os=s₁.os/\AllBare s'.gens) s₁:=by
 have rv:=vals_ints hi
 have lenV:=hi.length
 have core : ∀H:Hp,Only H->SqL K H a (ns.map V.int)->HOk P w H s₁.heap->(∀b,H b≠none->b=a)->(H a≠none->K.lookup a=none)->
   codeAny (model P w) callerA (.call (.ref fa) ⟨[.ref a],[]⟩) (λr s'=>r = .ok (.ret (.bool true))/\OldK s₁.heap s'.heap/\s'.os=s₁.os/\AllBare s'.gens) s₁:=by
  intro H hO hS hok hA hK
  have base_of:∀{b:Addr} {o:Obj},s₁.heap.get? b=some o->H b=none->(hidT s₁.heap H).get? b=some o:=λe n=>hidT_get e n
  have noA:∀{b:Addr} {o:Obj} {es:Array DictEntry} {ep:Nat},s₁.heap.get? b=some o->o.data = .dict es ep->H b=none:=λ{b o es ep} e d=>by
   cases q:H b with
   |none=>rfl
   |some u=>
    have e':b=a:=hA b (by rw[q];simp)
    subst e'
    rw[ha]at e;cases e
    have d':Data.seq vs.toArray _=Data.dict es ep:=d
    cases d'
  have nsK:∀{b:Addr} {m:Str->Option Value},s₁.heap.Ns b m->(hidT s₁.heap H).Ns b m:=λ{b m} ⟨o,es,ep,e,d,r⟩=>⟨o,es,ep,base_of e (noA e d),d,r⟩
  have hKb:K.In (hidT s₁.heap H):=λb o e=>base_of (KX b o e) (by
   cases q:H b with
   |none=>rfl
   |some u=>
    have e':b=a:=hA b (by rw[q];simp)
    subst e'
    rw[hK (by rw[q];simp)]at e;cases e)
  have hM:Mod K mg (hidT s₁.heap H):=⟨hKb,nsK hns,⟨mb,nsK hb,hbb⟩,let⟨mc,h1,h2⟩:=hlim;⟨mc,nsK h1,h2⟩⟩
  have e0:Env0 P w K mg (hidT s₁.heap H) callerA [] s₁ H:=⟨rfl,hM,λb o e=>of_hidT e,Nat.le_of_eq (hidT_size _ _),trivial,λb hb=>absurd (show b∈([]:List Addr) from hb) (by simp),hok,.of_eq hg⟩
  refine codeAny_mono ((F _ hKb (nsK hns)).run callerA [] s₁ H ⟨[.ref a],[]⟩ [.ref a] [.ref a] _ _ hr e0 (hbind s₁ (.ref a)) (.cons rfl .nil) (hsp H hO hS)) λr s' h=>?_
  cases r with
  |error e=>exact (hCX H e s' h).elim
  |ok fl =>
   cases fl with
   |next=>exact False.elim h
   |brk=>exact False.elim h
   |cont=>exact False.elim h
   |ret u=>
    obtain⟨v,H',os,bare,un,hok',r',q⟩:=h
    have q':v = .bl true:=q
    subst q'
    obtain rfl:u=Value.bool true:=r'
    refine⟨rfl,OldK.of_keep λb o e=>?_,os,bare⟩
    cases q:H b with
    |none=>exact un.keep b o e q (by intro z;exact absurd (show b∈([]:List Addr) from z) (by simp)) (by simp)
    |some u=>
     rcases hO b with z | ⟨ob,xs,z⟩
     .rw [q]at z;cases z
     .have z2:=un.frzs b ob _ z
      obtain⟨e1,_⟩:=hok b _ z
      obtain⟨e2,_⟩:=hok' b _ z2
      rw[e]at e1;cases e1
      exact e2
 cases hk:K.lookup a with
 |some o=>
  have e:=KX a o hk
  rw[ha]at e
  cases e
  refine core (λ_=>none) (λ_=>.inl rfl) (.inr ⟨_,vs.toArray,_,hk,rfl,rfl,rfl,by rw[size_toArray,lenV];exact hl,rv⟩) (λb u z=>by have z':(none:Option HO)=some u:=z;cases z') (λb z=>absurd rfl z) λz=>absurd rfl z
 |none=>
  refine core (λb=>if b=a then some (.frz {cls:=.type "list",data:=.seq vs.toArray} (.lst (ns.map V.int))) else none) (λb=>?_) (.inl (.inr ⟨{cls:=.type "list",data:=.seq vs.toArray},if_pos rfl⟩)) (λb u z=>?_) (λb z=>?_) λ_=>hk
  .by_cases hb:b=a
   .exact .inr ⟨_,_,if_pos hb⟩
   .exact .inl (if_neg hb)
  .by_cases hb:b=a
   .have z':=(if_pos hb).symm.trans z
    cases z'
    subst hb
    exact⟨ha,by rw[length_map];exact hl,vs,_,rv,ha⟩
   .have z':=(if_neg hb).symm.trans z
    cases z'
  .by_cases hb:b=a
   .exact hb
   .exact absurd (if_neg hb) z
theorem walk_of {l:PySem.W.OpenLaw}{n k:Nat}{q:Program}{loose:List Str}{XP:(Str->Option Value)->Heap->Prop}{YP:World->Heap->Prop}{d:DefRec}{K:Params->Frag}{CX:World->CXT}{sp:World->Sp}{x:Str}
  (hn:l.most=some n) (hn2:n<=sizeLine) (hdf:d.params.defaults=[]) (hr:Room k callerA)
  (hY:∀(w:World) (h:Heap),YP w h->(K w.params).In h)
  (F:∀(w:World) (mg:Str->Option Value) (fa:Addr) (h:Heap),(K w.params).In h->h.Ns mainGlobals mg->mg d.name=some (.ref fa)->
   ∃fd:FuncData,(∀(s:Shared) (u:Value),BindsTo s fd ⟨[u],[]⟩ [(x,u)])/\
    ∀base:Heap,(K w.params).In base->base.Ns mainGlobals mg->FnOk l.prog w (K w.params) mg base (CX w) k fa fd [x] (sp w))
  (hsp:∀(w:World) (H:Hp) (a:Addr) (ns:List Int),ns.length<=n->Only H->SqL (K w.params) H a (ns.map V.int)->sp w [.ref a] H (λv _=>v = .bl true) λ_ _ _=>False)
  (hCX:∀(w:World) (H:Hp) (s:Shared) (e:Value) (s':Shared),CX w [] H s (λ_ _ _=>False) e s'->False):
  PySem.W.WalkO q loose XP YP l.row.toRowW d [] (λf vs=>PySem.call f vs):=by
 refine Att.attach_call hn hdf λw s₀ s₁ mg mb fa o pm cd doc a vs ns δ σ ho hd hcd hmg hobj hints hlen hg=>?_
 have KX:=hY w _ σ
 obtain⟨fd,hb,hF⟩:=F w mg fa _ KX δ.T.g hmg
 exact law_call KX δ.T.g δ.T.b δ.T.builtins δ.T.nolimit hg hobj hints (le_trans hlen hn2) hr hF hb (λH hO hS=>hsp w H a ns hlen hO hS) λH e s'=>hCX w H s₁ e s'
def inClass (s:Stmt)(j:Nat):Stmt:=match s with
 | .ClassDef _ _ _ body _ _ _ _ _ _ _=>body.getD j (.Pass ⟨0,0,0,0⟩)
 |_=>.Pass ⟨0,0,0,0⟩
def defArgs (s:Stmt):Arguments:=match s with
 | .FunctionDef _ a _ _ _ _ _ _ _ _=>a
 |_=>{posonlyargs:=[],args:=[],vararg:=none,kwonlyargs:=[],kw_defaults:=[],kwarg:=none,defaults:=[]}
def defBody (s:Stmt):List Stmt:=match s with
 | .FunctionDef _ _ b _ _ _ _ _ _ _=>b
 |_=>[]
def defScope (s:Stmt):Scope:=match s with
 | .FunctionDef _ _ _ _ _ _ sc _ _ _=>sc
 |_=>{kind:=.function,names:=[],isGenerator:=false,isCoroutine:=false}
abbrev CX0:CXT:=λ_ _ _ _ _ _=>False
abbrev E0:XK:=λ_ _ _=>False
theorem pass0 {X:Cx}:Passes CX0 X E0:=λ_ _ _ _ _ _ _ h=>h.elim
structure Fun (K:Frag) (x qual:Str) (st:Stmt) (f:Addr) (fd:FuncData):Prop where
 ex:∃(oc:Value) (od:Option Addr) (kV doc pm:Value) (an:Option Addr) (cdv ct:Value) (osl:Array (Option Value)),
  fd=fnOf x qual (defArgs st) (defBody st) (defScope st) .none kV doc pm an cdv ct/\K.lookup f=some ⟨oc,od,.func fd,osl⟩/\codeIn K cdv qual=true
 kp:keepIn K (.ref f)=true
section
variable {P:Program}{w:World}{K:Frag}{mg:Str->Option Value}{base:Heap}
theorem Fun.ok {x qual:Str}{st:Stmt}{f:Addr}{fd:FuncData}{N ps:List Str}{k:Nat}{sp:Sp}(F:Fun K x qual st f fd)(S:FnScope N ps (defScope st))(len:∀vs H Q E,sp vs H Q E->vs.length=ps.length)
  (hbody:∀(cdv:Value) (A:Around) (outer:List Env) (s:Shared) (H:Hp) (vs:List V) (Q:VK) (E:XK),Room k (A.deeper (envOfC qual (defScope st) s.heap.objs.size f cdv))->sp vs H Q E->
   ∃t,PSs (cxOf CX0 P w K mg base N qual (defScope st) f cdv A outer s H E).nox (defBody st) t/\t {nx:=λ_ H'=>Q .non H',rt:=Q} (start N vs) H):FnOk P w K mg base CX0 (k+1) f fd ps sp:=by
 obtain⟨oc,od,kV,doc,pm,an,cdv,ct,osl,rfl,lk,hcd⟩:=F.ex
 refine fn_of lk hcd S len λA outer s H vs Q E hr hsp=>?_
 obtain⟨t,h,q⟩:=hbody cdv A outer s H vs Q E hr hsp
 exact⟨t,h.nox,q⟩
theorem Fun.binds {x qual:Str}{st:Stmt}{f:Addr}{fd:FuncData}{ps:List Str}(F:Fun K x qual st f fd)
  (h:∀(kV doc pm:Value) (an:Option Addr) (cdv ct:Value) (us:List Value),us.length=ps.length->bindArgs (fnOf x qual (defArgs st) (defBody st) (defScope st) .none kV doc pm an cdv ct) ⟨us,[]⟩=pure (ps.zip us)):Binds K fd ps []:=by
 obtain⟨oc,od,kV,doc,pm,an,cdv,ct,osl,rfl,lk,hcd⟩:=F.ex
 exact .all (h kV doc pm an cdv ct)
theorem fun_mk {x qual:Str}{st:Stmt}{f:Addr}{oc:Value}{od an:Option Addr}{osl:Array (Option Value)}{kV doc pm cdv ct:Value}(l:K.lookup f=some ⟨oc,od,.func (fnOf x qual (defArgs st) (defBody st) (defScope st) .none kV doc pm an cdv ct),osl⟩)
  (c:codeIn K cdv qual=true) (k:keepIn K (.ref f)=true):Fun K x qual st f (fnOf x qual (defArgs st) (defBody st) (defScope st) .none kV doc pm an cdv ct):=⟨⟨oc,od,kV,doc,pm,an,cdv,ct,osl,rfl,l,c⟩,k⟩
end
section
variable {X:Cx}
theorem pv (i:Nat){x:Str}{pos:Pos}(hN:X.N[i]?=some x:=by rfl)(hv:Vis X.env.scope x:=by first |exact Or.inl rfl |exact Or.inr (Or.inl rfl) |exact Or.inr (Or.inr rfl))(hd:(x==("__debug__":Str))=false:=by decide)
  (hcd:(x==("__classdict__":Str))=false:=by decide):PE X (.Name x pos) (tVar i):=pe_var hN hv hd hcd
end
theorem iteF {A B:Prop}(h:B):if false=true then A else B:=by
 rw[if_neg Bool.false_ne_true]
 exact h
theorem iteT {A B:Prop}(h:A):if true=true then A else B:=by
 rw[if_pos rfl]
 exact h
def Same (H H':Hp):Prop:=∀b o,H b=some o->H' b=some o
theorem Same.refl (H:Hp):Same H H:=λ_ _ h=>h
theorem Same.trans {H H1 H2:Hp}(a:Same H H1)(b:Same H1 H2):Same H H2:=λc o h=>b c o (a c o h)
theorem Same.free {H H':Hp}(e:Same H H'){l:Addr}(h:H' l=Option.none):H l=Option.none:=by
 cases q:H l with
 |none=>rfl
 |some o=>
  rw[e l o q]at h
  cases h
theorem Same.seq {K:Frag}{H H':Hp}{a:Addr}{xs:List V}(e:Same H H')(h:SqL K H a xs):SqL K H' a xs:=by
 rcases h with (h | ⟨o,h⟩) |h
 .exact .inl (.inl (e _ _ h))
 .exact .inl (.inr ⟨o,e _ _ h⟩)
 .exact .inr h
end L2
set_option maxHeartbeats 4000000
namespace L2
open PySem PySem.Spec PyProof.Rows
structure DefAt (K:Frag) (mg:Str->Option Value) (x:Str) (st:Stmt) (f:Addr) (fd:FuncData):Prop where
 fn:Fun K x x st f fd
 here:mg x=some (.ref f)
structure Cal (P:Program) (w:World) (K:Frag) (mg:Str->Option Value) (base:Heap) (x:Str) (k:Nat) (ps:List Str) (sp:Sp):Prop where
 ex:∃f fd,FnOk P w K mg base CX0 k f fd ps sp/\mg x=some (.ref f)/\keepIn K (.ref f)=true/\Binds K fd ps []
theorem Cal.of {P:Program}{w:World}{K:Frag}{mg:Str->Option Value}{base:Heap}{x:Str}{st:Stmt}{f:Addr}{fd:FuncData}{N ps:List Str}{k:Nat}{sp:Sp}(D:DefAt K mg x st f fd)(S:FnScope N ps (defScope st))
  (hb:∀(kV doc pm:Value) (an:Option Addr) (cdv ct:Value) (us:List Value),us.length=ps.length->bindArgs (fnOf x x (defArgs st) (defBody st) (defScope st) .none kV doc pm an cdv ct) ⟨us,[]⟩=pure (ps.zip us))
  (len:∀vs H Q E,sp vs H Q E->vs.length=ps.length)
  (hbody:∀(cdv:Value) (A:Around) (outer:List Env) (s:Shared) (H:Hp) (vs:List V) (Q:VK) (E:XK),Room k (A.deeper (envOfC x (defScope st) s.heap.objs.size f cdv))->sp vs H Q E->
   ∃t,PSs (cxOf CX0 P w K mg base N x (defScope st) f cdv A outer s H E).nox (defBody st) t/\t {nx:=λ_ H'=>Q .non H',rt:=Q} (start N vs) H):Cal P w K mg base x (k+1) ps sp:=
 ⟨f,fd,D.fn.ok S len hbody,D.here,D.fn.kp,D.fn.binds hb⟩
theorem pe_cal (C:Cal X.prog X.w X.K X.mg X.base x k ps sp)(hr:Room k X.A)(hg:Gl X x)(ha:PA X (e::es) t)
  (hdb:(x==("__debug__":Str))=false:=by decide) (he:starEach (e::es) X.env=(false,eval e X.env)::starEach es X.env:=by rfl) (hpl:(backTo pos (starEach es X.env)).any (·.1)=false:=by rfl):
  PE X (.Call (.Name x p) (e::es) [] pos) (tCall sp [] E0 t):=by
 obtain⟨f,fd,F,hm,hk,hb⟩:=C.ex
 exact pe_call F hr hg hm hk hb .nil pass0 ha hdb he hpl
def spL (n:Nat)(R:List V->Hp->VK->Prop):Sp:=λvs H Q _=>vs.length=n/\R vs H Q
structure Blt (mg:Str->Option Value):Prop where
 len:mg "len"=none
 range:mg "range"=none
 max:mg "max"=none
 min:mg "min"=none
 isinstance:mg "isinstance"=none
 int:mg "int"=none
 bool:mg "bool"=none
 tuple:mg "tuple"=none
 list:mg "list"=none
 all:mg "all"=none
 zip:mg "zip"=none
 reversed:mg "reversed"=none
theorem Same.new (h:H p=none): Same H (upd H p o):=λb u e=>by rw[upd_ne (ne_of_none e h)];exact e
def spLaw (K:Frag):Sp:=spL 1 λvs H Q=>∃(a:Addr) (ns:List Int),vs=[.ref a]/\SqL K H a (ns.map V.int)/\ns.length<=63/\∀H',Q (.bl true) H'
theorem law_walk {l:PySem.W.OpenLaw}{k:Nat}{q:Program}{loose:List Str}{XP:(Str->Option Value)->Heap->Prop}{YP:World->Heap->Prop}{d:DefRec}{K:Params->Frag}(hn:l.most=some 63)(hdf:d.params.defaults=[])(hr:Room k callerA)
  (hY:∀(w:World) (h:Heap),YP w h->(K w.params).In h)
  (F:∀(w:World) (mg:Str->Option Value) (fa:Addr) (h:Heap),(K w.params).In h->h.Ns mainGlobals mg->mg d.name=some (.ref fa)->
   ∃fd:FuncData,(∀(s:Shared) (u:Value),BindsTo s fd ⟨[u],[]⟩ [("_law_script",u)])/\∀base:Heap,(K w.params).In base->base.Ns mainGlobals mg->FnOk l.prog w (K w.params) mg base CX0 k fa fd ["_law_script"] (spLaw (K w.params))):
  PySem.W.WalkO q loose XP YP l.row.toRowW d [] (λf vs=>PySem.call f vs):=
 L2.walk_of (n:=63) (k:=k) (x := "_law_script") (CX:=λ_=>CX0) (sp:=λw=>spLaw (K w.params)) hn (by decide) hdf hr hY F (λ_ _ a ns hl _ hS=>⟨rfl,a,ns,rfl,hS,hl,λ_=>rfl⟩) λ_ _ _ _ _ z=>z
section
variable {X:Cx}{e:Expr}{es:List Expr}{te:TE}{t:TA}{pos:Pos}
def tLstS (t:TA):TE:=λY H Q=>t Y H λxs H1=>xs.length<=sizeLine/\∀p H',H1 p=none->Same H1 H'->H' p=some (.lst xs)->Q (.ref p) H'
theorem pe_lstS (h:PA X es t): PE X (.List es pos) (tLstS t):=by
 intro pins s Y H Q I hq
 refine wpAny_List_spliced (thn (h pos pins s Y H _ I hq) λus s1 ⟨xs,H1,I1,r,z,q⟩=>⟨by rw[<- r.length];exact z,?_⟩)
 have hf:H1 s1.heap.objs.size=none:=I1.hok.fresh (Nat.le_refl _)
 refine⟨.ref s1.heap.objs.size,upd H1 s1.heap.objs.size (.lst xs),I1.laid (t':=s1.toks) (λb u e=>get?_push_of_some _ e) (Nat.le_refl _) ?_,rfl,q _ _ hf (Same.new hf) upd_same⟩
 exact⟨z,us,0,r,get?_push_size _ rfl⟩
end
theorem iteB {c:Bool}{A B:Prop}(hc:c=false)(h:B):if c=true then A else B:=by
 rw[hc];exact iteF h
section
variable {X:Cx}{tg:Expr}
end
section
variable {X:Cx}
theorem Vals.at (r:Vals xs its)(h:j<its.toArray.size): ∃x,xs[j]?=some x/\RelV x its.toArray[j]:=by
 have hl:=r.length
 have hj:j<xs.length:=by rw[size_toArray]at h;lia
 obtain⟨u,hu,ru⟩:=r.get (i:=j) (x:=xs[j]) (by simp)
 refine⟨xs[j],by simp,?_⟩
 have e:its.toArray[j]=u:=by
  have:its[j]?=some its.toArray[j]:=by simp at h ⊢<;>try exact h
  rw[this]at hu;exact Option.some.inj hu
 rw[e];exact ru
end
def freeL (scope:Scope)(env:Env):List (Str×Addr):=((scope.names.filter λx=>x.2 == .free).map λx=>(x.1,(env.cells.lookup x.1).getD 0)).reverse
theorem closureFor_go (env:Env): ∀(l:List (Str×NameKind)) (acc:List (Str×Addr)),(∀x∈l,x.2 = .free->∃c,env.cells.lookup x.1=some c)->
  (forIn l acc (λ(x:Str×NameKind) (r:List (Str×Addr))=>(match x with | (name,kind)=>if (kind==NameKind.free)=true then do let a <- cellOf env name;pure (ForInStep.yield ((name,a)::r)) else pure (ForInStep.yield r):Sem (ForInStep (List (Str×Addr)))))) =
   (pure (((l.filter λx=>x.2 == .free).map λx=>(x.1,(env.cells.lookup x.1).getD 0)).reverse++acc):Sem (List (Str×Addr)))
 | [],acc,_=>rfl
 | (n,k)::l,acc,h=>by
  rw[List.forIn_cons]
  by_cases hk:k = .free
  .subst hk
   obtain⟨c,hc⟩:=h (n,.free) mem_cons_self rfl
   have hc':env.cells.lookup n=some c:=hc
   have ih:=closureFor_go env l ((n,c)::acc) λx hx=>h x (mem_cons_of_mem _ hx)
   have e:cellOf env n=pure c:=by unfold cellOf;rw[hc']
   simp only[beq_self_eq_true,if_true,e,pure_bind]
   rw[ih]
   simp[hc']
  .have hb:(k==NameKind.free)=false:=by simpa using hk
   have ih:=closureFor_go env l acc λx hx=>h x (mem_cons_of_mem _ hx)
   simp only[hb,Bool.false_eq_true,if_false,pure_bind]
   rw[ih]
   simp[hb]
theorem closureFor_free (h:∀x∈scope.names,x.2 = .free->∃c,env.cells.lookup x.1=some c): closureFor scope env=pure (freeL scope env):=by
 have:=closureFor_go env scope.names [] h
 unfold closureFor freeL
 rw[append_nil]at this
 simp only[bind_pure]
 exact this
theorem freeL_lookup (x:Str): (freeL scope env).lookup x=if (scope.names.any λy=>y.1==x && y.2 == .free) then some ((env.cells.lookup x).getD 0) else none:=by
 have key:∀(l:List (Str×NameKind)),((l.filter λx=>x.2 == .free).map λx=>(x.1,(env.cells.lookup x.1).getD 0)).lookup x=if (l.any λy=>y.1==x && y.2 == .free) then some ((env.cells.lookup x).getD 0) else none:=by
  intro l
  induction l with
  |nil=>rfl
  |cons p l ih=>
   obtain⟨n,k⟩:=p
   by_cases hk:(k==NameKind.free)=true
   .rw [filter_cons,if_pos (show ((n,k).2==NameKind.free)=true from hk),map_cons,lookup_cons,ih]
    by_cases hn:n=x
    .subst hn;simp[hk]
    .have h1:(x==n)=false:=by simpa using λe=>hn e.symm
     have h2:(n==x)=false:=by simpa using hn
     simp[h1,h2]
   .have hk':(k==NameKind.free)=false:=by simpa using hk
    rw[filter_cons,if_neg (show ¬ ((n,k).2==NameKind.free)=true from hk),ih]
    simp[hk']
 have rev:(freeL scope env)=((scope.names.reverse.filter λx=>x.2 == .free).map λx=>(x.1,(env.cells.lookup x.1).getD 0)):=by
  unfold freeL
  rw[<- List.map_reverse,<- List.filter_reverse]
 rw[rev,key,List.any_reverse]
theorem compLoop_x {R:Result->Shared->Prop}(I:Nat->Shared->Prop)
  (turn : ∀n s,I n s->wpAny (model prog w) A (pyNext it) (λr s₁=>match r with
   |none=>R (.ok .next) s₁
   |some v=>wpAny (model prog w) A (letOwnedTupleGo target it v) (λ_ s₂=>wpAny (model prog w) A (assign target env v) (λ_ s₃=>wpAny (model prog w) A (eval elt env) (λx s₄=>
     wpAny (model prog w) A (call (.builtin "list.append") [acc,x]) (λ_ s₅=>∃m,m<n/\I m s₅) (λ_ _=>False) s₄) (notedBy (model prog w) A env λe s'=>R (.error e) s') s₃) (λ_ _=>False) s₂) (λ_ _=>False) s₁) (λ_ _=>False) s)
  (n:Nat) (h:I n s): codeAny (model prog w) A (.compLoop (.ListComp elt [⟨target,iter,[],0⟩] scope pos) 0 it acc env) R s:=by
 refine codeAny_loop rfl I (λn s hI=>?_) n h
 refine wpAny_noted ?_
 rw[compTurn_list1]
 refine wpAny_bind (wpAny_standAt (wpAny_bind (wpAny_mono (turn n s hI) (λr s₁ h₁=>?_) λ_ _ f=>f.elim)))
 cases r with
 |none=>exact wpAny_pure h₁
 |some v=>
  refine wpAny_bind (wpAny_mono h₁ (λ_ s₂ h₂=>?_) λ_ _ f=>f.elim)
  exact wpAny_bind (wpAny_mono h₂ (λ_ s₃ h₃=>wpAny_bind (wpAny_bind (wpAny_mono h₃ (λx s₄ h₄=>wpAny_bind (wpAny_mono h₄ (λ_ s₅ h₅=>wpAny_pure (wpAny_pure ⟨rfl,h₅⟩)) λ_ _ f=>f.elim)) λ_ _ f=>f))) λ_ _ f=>f.elim)
theorem relabel_lookup (x:Str): (relabel scope env).names.lookup x=(scope.names.lookup x).map λk=>if (k==NameKind.free && env.scope.kind == .function && env.kindOf x==some .cell)=true then NameKind.cell else k:=by
 have key:∀l:List (Str×NameKind),(l.map λ(n,k)=>if (k==NameKind.free && env.scope.kind == .function && env.kindOf n==some .cell) then (n,NameKind.cell) else (n,k)).lookup x =
   (l.lookup x).map λk=>if (k==NameKind.free && env.scope.kind == .function && env.kindOf x==some .cell)=true then NameKind.cell else k:=by
  intro l
  induction l with
  |nil=>rfl
  |cons p l ih=>
   obtain⟨n,k⟩:=p
   rw[map_cons]
   by_cases hn:x=n
   .subst hn
    by_cases hc:(k==NameKind.free && env.scope.kind == .function && env.kindOf x==some .cell)=true
    .simp only[hc,if_true,lookup_cons,beq_self_eq_true,map_some]
    .simp only[if_neg hc,lookup_cons,beq_self_eq_true,map_some]
   .have hb:(x==n)=false:=by simpa using hn
    by_cases hc:(k==NameKind.free && env.scope.kind == .function && env.kindOf n==some .cell)=true
    .simp only[hc,if_true,lookup_cons,hb];exact ih
    .simp only[if_neg hc,lookup_cons,hb];exact ih
 exact key scope.names
def blkσ (ix:List (Option Nat))(Y:St):St:=ix.map λo=>o.bind λi=>(Y[i]?).join
def CapOf (X:Cx)(scope:Scope):List Str->List (Option Nat)->Prop
 | [],[]=>True
 |_::N,none::ix=>CapOf X scope N ix
 |x::N,some i::ix=>(X.N[i]?=some x/\scope.names.lookup x=some .free/\(X.env.kindOf x=some .cell∨X.env.kindOf x=some .free))/\CapOf X scope N ix
 |_,_=>False
theorem CapOf.get:∀{N:List Str} {ix:List (Option Nat)},CapOf X scope N ix->N.length=ix.length/\∀(j i:Nat),ix[j]?=some (some i)->
  ∃x,N[j]?=some x/\X.N[i]?=some x/\scope.names.lookup x=some .free/\(X.env.kindOf x=some .cell∨X.env.kindOf x=some .free)
 | [],[],_=>⟨rfl,λj i h=>by simp at h⟩
 |x::N,none::ix,h=>by
  obtain⟨h1,h2⟩:=CapOf.get (show CapOf X scope N ix from h)
  refine⟨by simp[h1],λj i e=>?_⟩
  cases j with
  |zero=>simp at e
  |succ j=>simpa using h2 j i e
 |x :: N,some i'::ix,h=>by
  obtain⟨h0,h⟩:=(show _/\CapOf X scope N ix from h)
  obtain⟨h1,h2⟩:=CapOf.get h
  refine⟨by simp[h1],λj i e=>?_⟩
  cases j with
  |zero=>
   simp at e
   subst e
   exact⟨x,rfl,h0⟩
  |succ j=>simpa using h2 j i e
 | [],_::_,h=>h.elim
 |_::_,[],h=>by cases h
structure BlkScope (outer scope:Scope):Prop where
 kind:scope.kind = .function
 cell:∀y∈scope.names,y.2≠.cell
 free:∀y∈scope.names,y.2 = .free->outer.names.lookup y.1=some .cell∨outer.names.lookup y.1=some .free
 names:∀y∈scope.names,y.2 = .local->scope.names.lookup y.1=some .local
abbrev Cx.blk (X:Cx)(scope:Scope)(N:List Str)(fp:List Addr)(s:Shared)(H:Hp):Cx:=
 {X with N:=N,s₀:=s,H₀:=H,env:=compEnvC scope (freeL scope X.env) s.heap.objs.size X.env,outer:=X.stack,ex:=fp,fn:=λ_=>false,pn:=[],xe:=λ_ _=>False}
section
variable {X:Cx}{pins:List (Addr×Obj)}{Y:St}{H:Hp}{s:Shared}{scope:Scope}{N:List Str}{ix:List (Option Nat)}{fp:List Addr}
theorem blk_cell (ok:X.Ok)(S:BlkScope X.env.scope scope)(h:(freeL scope X.env).lookup x=some c): X.env.cells.lookup x=some c:=by
 rw[freeL_lookup]at h
 split at h
 .rename_i ha
  obtain⟨y,hy,e⟩:=List.any_eq_true.mp ha
  rw[and_eq_true,beq_iff_eq,beq_iff_eq]at e
  obtain⟨e1,e2⟩:=e
  subst e1
  obtain⟨c',hc'⟩:=ok.has y.1 (S.free y hy e2)
  rw[hc']at h ⊢
  exact h
 .cases h
theorem blk_free (ok:X.Ok)(h:scope.names.lookup x=some .free)(hk:X.env.kindOf x=some .cell∨X.env.kindOf x=some .free): ∃c,(freeL scope X.env).lookup x=some c/\X.env.cells.lookup x=some c:=by
 obtain⟨c,hc⟩:=ok.has x hk
 refine⟨c,?_,hc⟩
 rw[freeL_lookup,if_pos,hc]
 .rfl
 .exact List.any_eq_true.mpr ⟨(x,.free),PySem.mem_of_lookup h,by simp⟩
theorem Inv.blkOk (I:Inv X pins Y H s)(S:BlkScope X.env.scope scope)(hf:∀b∈fp,FpOk X pins H b)(hlt:∀b∈fp,b<s.heap.objs.size): (X.blk scope N fp s H).Ok where
 mod:=I.ok.mod
 kind:=S.kind
 glob:=I.ok.glob
 blt:=I.ok.blt
 above:=Nat.le_refl _
 inj:=λx y c h1 h2=>I.ok.inj x y c (blk_cell I.ok S h1) (blk_cell I.ok S h2)
 has := λx hx=>by
  have hx':(relabel scope X.env).names.lookup x=some .cell∨(relabel scope X.env).names.lookup x=some .free:=hx
  rw[relabel_lookup]at hx'
  cases e:scope.names.lookup x with
  |none=>rw[e]at hx';simp at hx'
  |some k=>
   have hm:=PySem.mem_of_lookup e
   have hk:k = .free:=by
    by_cases hk:k = .free
    .exact hk
    .exfalso
     have hb:(k==NameKind.free)=false:=by simpa using hk
     have hc:k≠.cell:=S.cell _ hm
     have e2:(if (k==NameKind.free && X.env.scope.kind == .function && X.env.kindOf x==some .cell)=true then NameKind.cell else k)=k:=if_neg (by rw[hb,Bool.false_and];exact Bool.false_ne_true)
     rw[e,map_some,e2]at hx'
     rcases hx' with z |z
     .exact hc (Option.some.inj z)
     .exact hk (Option.some.inj z)
   subst hk
   obtain⟨c,h1,_⟩:=blk_free I.ok e (S.free _ hm rfl)
   exact⟨c,h1⟩
 cab:=λx c h _=>by cases h
 hd:=I.ok.hd
 frames:=I.ok.frames
 stk:=.inl rfl
 exf:=λb hb=>⟨ne_of_lt (hlt b hb),λx c h=>(hf b hb).2.2.2.2.1 x c (blk_cell I.ok S h)⟩
 bs:=I.bs
 bsz:=le_trans I.ok.bsz I.sz
 noex:=λb o e hb=>by
  rcases (hf b hb).2.2.2.1 with z |z
  .exact I.ok.noex b o e z
  .exact absurd (lt_of_lt_of_le (lt_size e) (le_trans I.ok.bsz z)) (lt_irrefl _)
 exfs:=λb hb h=>by
  rcases mem_cons.mp (I.stkSub b h) with z |z
  .exact (hf b hb).2.1 z
  .exact (hf b hb).2.2.1 z
 funs:=I.stack
 frf:=I.stkFree
theorem Inv.blk {m:Str->Option Value}(I:Inv X pins Y H s)(S:BlkScope X.env.scope scope)(cap:CapOf X scope N ix)(hf:∀b∈fp,FpOk X pins H b)(hlt:∀b∈fp,b<s.heap.objs.size)
  (hns:h₁.Ns s.heap.objs.size m) (hsb:Heap.SameBut s.heap.objs.size (s.heap.push o) h₁): Inv (X.blk scope N fp s H) [] (blkσ ix Y) H {s with heap:=h₁,toks:=t}:=by
 have keep:∀b o,s.heap.get? b=some o->h₁.get? b=some o:=λb o e=>hsb.extBut b o (ne_of_lt (lt_size e)) (get?_push_of_some _ e)
 obtain⟨hl,hcap⟩:=cap.get
 refine⟨I.blkOk S hf hlt,rfl,I.bare,Un.kept keep,⟨m,hns,λj x v e1 e2 e3=>?_⟩,λx c e=>?_,I.hok.fresh (Nat.le_refl _),λx c e=>I.freeC x c (blk_cell I.ok S e),λp hp=>absurd (show p∈([]:List (Addr×Obj)) from hp) (by simp),I.hok.kept keep,by unfold blkσ;rw[length_map];exact hl.symm⟩
 .obtain ⟨i,h1,h2⟩:∃i,ix[j]?=some (some i)/\Y[i]?=some (some v):=by
   unfold blkσ at e2
   rw[getElem?_map]at e2
   cases q:ix[j]? with
   |none=>rw[q]at e2;cases e2
   |some o=>
    rw[q]at e2
    cases o with
    |none=>simp at e2
    |some i=>
     refine⟨i,rfl,?_⟩
     cases q2:Y[i]? with
     |none=>simp[q2]at e2
     |some o2=>simp[q2]at e2;rw[e2]
  obtain⟨y,n1,n2,n3,n4⟩:=hcap j i h1
  have hxy:x=y:=by rw[e1]at n1;exact Option.some.inj n1
  subst hxy
  obtain⟨m',hn',hl'⟩:=I.loc
  have vis:Vis X.env.scope x:=by rcases n4 with k |k;exact .inr (.inl k);exact .inr (.inr k)
  obtain⟨u,r,l⟩:=hl' i x v n2 h2 vis
  refine⟨u,r,.inr ⟨?_,?_⟩⟩
  .show (relabel scope X.env).names.lookup x=some .cell∨(relabel scope X.env).names.lookup x=some .free
   rw[relabel_lookup,n3]
   by_cases hc:(NameKind.free==NameKind.free && X.env.scope.kind == .function && X.env.kindOf x==some .cell)=true
   .left;simp only[map_some,if_pos hc]
   .right;simp only[map_some,if_neg hc]
  .obtain ⟨c,c1,c2⟩:=blk_free I.ok n3 n4
   refine⟨c,c1,?_⟩
   rcases l with⟨hk,_⟩ | ⟨_,c',hc',z⟩
   .rcases n4 with k |k
    .rw [hk]at k;cases k
    .rw [hk]at k;cases k
   .rw [c2]at hc';cases hc'
    obtain⟨ob,ho,hd⟩:=z
    exact⟨ob,keep _ _ ho,hd⟩
 .obtain ⟨v,ob,ho,hd⟩:=I.cell x c (blk_cell I.ok S e)
  exact⟨v,ob,keep _ _ ho,hd⟩
theorem Inv.unblk (I:Inv X pins Y H s)(hf:∀b∈fp,FpOk X pins H b)(J:Inv (X.blk scope N fp s H) pins' Y' H' s'): Inv X pins Y H' s':=
 I.call' J.os J.base J.hok J.bare λb hb=>⟨(hf b hb).2.2.2.1,(hf b hb).2.1,(hf b hb).2.2.2.2.1,(hf b hb).2.2.2.2.2⟩
theorem Inv.frameGone (I:Inv X pins Y H s)(f:FpOk X pins H C)(hs:Heap.SameBut C s.heap h'): Inv X pins Y H {s with heap:=h'}:=
 I.turned (t':=s.toks) (λb o hb e=>hs.extBut b o hb e) f.1 f.2.1 f.2.2.2.1 f.2.2.2.2.1 f.2.2.2.2.2
end
def CompW (J:It)(D:Addr)(g:TG)(te:TE)(Y₀:St)(H₀:Hp)(fin:Hp->Prop):Prop:=
 ∃W:Nat->Nat->St->List V->Hp->Prop,(∃m,W 0 m Y₀ [] H₀)/\∀i m Y ys H,W i m Y ys H->
  (J.stop i H/\fin H)∨(ys.length<sizeLine/\J.go i H/\∀x H',J.yld i H x H'->g x Y H' λY2 H2=>te Y2 H2 λy H3=>H3 D=some (.lst ys)/\∃m',m'<m/\W (i+1) m' Y2 (ys++[y]) (upd H3 D (.lst (ys++[y]))))
def tComp (wi:TI)(ix:List (Option Nat))(g:TG)(te:TE):TE:=λY H Q=>wi Y H λJ H1=>∀D,H1 D=none->CompW J D g te (blkσ ix Y) (upd H1 D (.lst [])) λH'=>Q (.ref D) H'
section
variable {X:Cx}{tg elt iter:Expr}{scope:Scope}{N:List Str}{ix:List (Option Nat)}{wi:TI}{g:TG}{te:TE}{pos:Pos}
theorem comp_coreG {RR:Value->Addr->Result->Shared->Prop}(hc:X.calm=true)(hi:PI X tg iter wi)(S:BlkScope X.env.scope scope)(cap:CapOf X scope N ix)
  (hg:∀fp s H,PG (X.blk scope N fp s H) tg g) (I:Inv X pins Y H s) (h:tComp wi ix g te Y H Q)
  (he:∀D fp s3 H3 pins' s7 Y7 H7 Q',Inv X pins Y H3 s3->(∀b∈fp,FpOk X pins H3 b)->Inv (X.blk scope N fp s3 H3) pins' Y7 H7 s7->te Y7 H7 Q'->wpAny (model X.prog X.w) X.A (eval elt (compEnvC scope (freeL scope X.env) s3.heap.objs.size X.env)) (EP (X.blk scope N fp s3 H3) pins' Y7 Q') (notedBy (model X.prog X.w) X.A (compEnvC scope (freeL scope X.env) s3.heap.objs.size X.env) λe s'=>RR (.ref D) s3.heap.objs.size (.error e) s') s7)
  (hRR:∀D C H' s',Inv X pins Y H' s'->FpOk X pins H' C->(∃m,s'.heap.Ns C m)->Q (.ref D) H'->RR (.ref D) C (.ok .next) s'):
  wpAny (model X.prog X.w) X.A (eval iter X.env) (λx s₁=>wpAny (model X.prog X.w) X.A (pyIter x) (λit s₂=>wpAny (model X.prog X.w) X.A (newList []) (λacc s₃=>
   wpAny (model X.prog X.w) X.A (newFunctionEnv scope X.env.globals (freeL scope X.env) [] X.env.qual none .none (some X.env)) (λcenv s₄=>
    codeAny (model X.prog X.w) X.A (.compStart (.ListComp elt [⟨tg,iter,[],0⟩] scope pos) 0 it acc {cenv with scope:=relabel scope X.env}) (RR acc cenv.locals) s₄) X.xe s₃) X.xe s₂) X.xe s₁) X.xe s:=by
 refine thn (hi pins s Y H _ I h) λv s1 h1=>thn h1 λitv s2 h2=>?_
 obtain⟨it,fp,tn,J,H2,e,I2,T,st2,f2,R⟩:=h2
 subst e
 refine wpAny_newObj_type (wpAny_newFunctionEnv S.cell (by intro y hy;simp at hy) (λh₁ hns₁ hsb₁=>?_) S.kind)
 dsimp only at hns₁ hsb₁ ⊢
 have I3:Inv X pins Y (upd H2 s2.heap.objs.size (.lst [])) {s2 with heap:=s2.heap.push {cls:=.type "list",data:=.seq ([]:List Value).toArray},toks:=s2.toks}:=I2.lnew .nil (zero_le _)
 have hD:H2 s2.heap.objs.size=none:=I2.fresh
 have lt2:∀b∈fp,b<s2.heap.objs.size:=λb hb=>by obtain⟨o,e,_⟩:=T.obj 0 _ st2 b hb;exact lt_size e
 obtain⟨W,⟨m0,w0⟩,turn⟩:=R s2.heap.objs.size hD
 generalize hs3:({s2 with heap:=s2.heap.push {cls:=.type "list",data:=.seq ([]:List Value).toArray},toks:=s2.toks}:Shared)=s3 at I3
 have e3:s3.heap=s2.heap.push {cls:=.type "list",data:=.seq ([]:List Value).toArray}:=by rw[<- hs3]
 have sz3:s3.heap.objs.size=s2.heap.objs.size+1:=by rw[e3,size_push]
 have f3:∀b∈fp,FpOk X pins (upd H2 s2.heap.objs.size (.lst [])) b:=λb hb=>⟨by rw[upd_ne (ne_of_lt (lt2 b hb))];exact (f2 b hb).1,(f2 b hb).2⟩
 have lt3:∀b∈fp,b<s3.heap.objs.size:=λb hb=>by rw[sz3];exact Nat.lt_succ_of_lt (lt2 b hb)
 have hns₁':=hns₁
 rw[<- e3]at hns₁'
 have hsb₁':=hsb₁
 rw[<- e3]at hsb₁'
 have J0:=I3.blk (t:=s2.toks+([]:List (Str×Value)).length) S cap f3 lt3 hns₁' hsb₁'
 have keep1:∀b o,s2.heap.get? b=some o->h₁.get? b=some o:=λb o e=>hsb₁.extBut b o (by rw[size_push];exact ne_of_lt (Nat.lt_succ_of_lt (lt_size e))) (get?_push_of_some _ (get?_push_of_some _ e))
 have st1:tn 0 h₁:=T.keep 0 _ _ st2 λb _ o e=>keep1 b o e
 have stat:∀{H':Hp},(∀b∈fp,H' b=none)->∀b∈fp,FpOk (X.blk scope N fp s3 (upd H2 s2.heap.objs.size (.lst []))) [] H' b:=λ{H'} hn b hb=>by
  refine⟨hn b hb,ne_of_lt (lt3 b hb),λz=>?_,.inl hb,λx c e=>(f2 b hb).2.2.2.2.1 x c (blk_cell I.ok S e),λp hp=>absurd (show p∈([]:List (Addr×Obj)) from hp) (by simp)⟩
  rcases mem_cons.mp (I3.stkSub b z) with y |y
  .exact (f2 b hb).2.1 y
  .exact (f2 b hb).2.2.1 y
 have loop:∀s4:Shared,s4={s3 with heap:=h₁,toks:=s2.toks+([]:List (Str×Value)).length}->
   codeAny (model X.prog X.w) X.A (.compLoop (.ListComp elt [⟨tg,iter,[],0⟩] scope pos) 0 (.ref it) (.ref s2.heap.objs.size) (compEnvC scope (freeL scope X.env) s3.heap.objs.size X.env)) (RR (.ref s2.heap.objs.size) s3.heap.objs.size) s4:=by
  rintro s4 rfl
  refine compLoop_x (λn s'=>∃i Y' ys H',Inv (X.blk scope N fp s3 (upd H2 s2.heap.objs.size (.lst []))) [] Y' H' s'/\tn i s'.heap/\(∀b∈fp,H' b=none)/\W i n Y' ys H') ?_ m0 ⟨0,_,[],_,J0,st1,λb hb=>(f3 b hb).1,w0⟩
  rintro n s' ⟨i,Y',ys,H',I',st',fr',w'⟩
  rcases turn i n Y' ys H' w' with⟨stop,fin⟩ | ⟨hy,go,step⟩
  .refine thn (T.done (X.blk scope N fp s3 (upd H2 s2.heap.objs.size (.lst []))) rfl rfl rfl hc i [] s' Y' H' _ I' (stat fr') st' stop) λr s5 ⟨hr,I5⟩=>?_
   subst hr
   obtain⟨m,hn,_⟩:=I5.loc
   exact hRR _ _ H' s5 (I3.unblk f3 I5) (I3.fpOk (Nat.le_refl _) I5.free) ⟨m,hn⟩ fin
  .refine thn (T.item (X.blk scope N fp s3 (upd H2 s2.heap.objs.size (.lst []))) rfl rfl rfl hc i [] s' Y' H' _ I' (stat fr') st' go) λr s5 ⟨u,hr,h5⟩=>?_
   subst hr
   refine thn h5 λ_ s6 ⟨x,H6,I6,r6,y6,st6,fr6⟩=>?_
   have I6':=I6.pinned (stat fr6) (T.obj _ _ st6)
   refine thn (hg fp s3 _ _ s6 Y' H6 x u _ I6' r6 (step x H6 y6)) λ_ s7 ⟨Y7,H7,I7,q7⟩=>?_
   refine wpAny_mono (he s2.heap.objs.size fp s3 _ _ s7 Y7 H7 _ I3 f3 I7 q7) (λyv s8 ⟨y,H8,I8,r8,hl8,m',hm',w8⟩=>?_) λ_ _ z=>z
   refine thn (mt_append _ s8 Y7 H8 (.ref s2.heap.objs.size) [y] (.ref s2.heap.objs.size) [yv] (λ_ H9=>H9=upd H8 s2.heap.objs.size (.lst (ys++[y]))) I8 rfl (.cons r8 .nil) ⟨_,ys,y,rfl,rfl,hl8,hy,rfl⟩) λ_ s9 ⟨_,H9,I9,_,e9⟩=>?_
   subst e9
   refine⟨m',hm',i+1,Y7,ys++[y],_,I9.unpinned,T.keep _ _ _ st6 λb hb o e=>(I9.pin (b,o) (mem_append_right _ (mem_append_right _ (mem_pinsAt hb e)))).1,λb hb=>?_,w8⟩
   obtain⟨o,e,_⟩:=T.obj _ _ st6 b hb
   exact (I9.pin (b,o) (mem_append_right _ (mem_append_right _ (mem_pinsAt hb e)))).2.1
 have fin:=loop _ rfl
 rw[<- hs3]at fin
 exact codeAny_compStart_list fin (T.self _ 0 _ _ _ st1 fin)
theorem blk_clos (S:BlkScope X.env.scope scope)(ok:X.Ok): closureFor scope X.env=pure (freeL scope X.env):=closureFor_free λx hx e=>ok.has x.1 (S.free x hx e)
end
section
variable {X:Cx}
set_option exponentiation.threshold 5000 in
end
section
variable {X:Cx}
theorem CallR.imp {f:Value}{r r':List V->Hp->VK->Prop}(h:CallR X f r)(hi:∀xs H Q,r' xs H Q->r xs H Q):CallR X f r':=λpins s Y H xs us Q I rs q=>h pins s Y H xs us Q I rs (hi xs H Q q)
def rListS (K:Frag):List V->Hp->VK->Prop:=λxs H Q=>∃p ys,xs=[.ref p]/\(SqL K H p ys∨SqT K H p ys)/\∀l H',H l=none->Same H H'->H' l=some (.lst ys)->Q (.ref l) H'
theorem call_listS:CallR X (.type "list") (rListS X.K):=call_list_of.imp λxs H Q ⟨p,ys,e,h,q⟩=>⟨p,ys,e,h,λl hl=>q l _ hl (Same.new hl) upd_same⟩
def rSlS (K:Frag):V->Option Int->Option Int->Hp->VK->Prop:=λx lo hi H Q=>∃a xs,x = .ref a/\SqL K H a xs/\∀p H',H p=none->Same H H'->H' p=some (.lst (cutV xs lo hi))->Q (.ref p) H'
theorem SlR.imp {r r':V->Option Int->Option Int->Hp->VK->Prop}(h:SlR X r)(hi:∀x lo hi H Q,r' x lo hi H Q->r x lo hi H Q):SlR X r':=λpins s Y H x v vl vu lo hi' sl Q I rx hs pl pu q=>h pins s Y H x v vl vu lo hi' sl Q I rx hs pl pu (hi _ _ _ _ _ q)
theorem sl_listS:SlR X (rSlS X.K):=sl_list.imp λx lo hi H Q ⟨a,xs,e,h,q⟩=>⟨a,xs,e,h,λp hp=>q p _ hp (Same.new hp) upd_same⟩
end
end L2
namespace PySem
namespace F
end F
section
variable {prog:Program}{w:World}{A:Around}{E:Value->Shared->Prop}{s:Shared}
end
end PySem
namespace L2
open PySem PySem.Spec PyProof.Rows
section
variable {X:Cx}{tg:Expr}
end
theorem Same.seqT {K:Frag}{H H':Hp}{a:Addr}{xs:List V}(e:Same H H')(h:SqT K H a xs):SqT K H' a xs:=by
 rcases h with (h | ⟨o,h⟩) |h
 .exact .inl (.inl (e _ _ h))
 .exact .inl (.inr ⟨o,e _ _ h⟩)
 .exact .inr h
def SameBut' (l:Addr)(H H':Hp):Prop:=∀b o,b≠l->H b=some o->H' b=some o
theorem SameBut'.refl (l:Addr)(H:Hp):SameBut' l H H:=λ_ _ _ h=>h
theorem SameBut'.trans {l:Addr}{H H1 H2:Hp}(a:SameBut' l H H1)(b:SameBut' l H1 H2):SameBut' l H H2:=λc o hc h=>b c o hc (a c o hc h)
def defName:Stmt->Str
 | .FunctionDef n _ _ _ _ _ _ _ _ _=>n
 |_ => ""
abbrev cloObj (q:Str)(st:Stmt)(cl:List (Str×Addr))(doc pm:Value)(c:Addr)(ctv:Value):Obj:=PySem.W.fnMade (defName st) q (defArgs st) (defBody st) (defScope st) cl doc pm c ctv
def CellsF (F:Hp)(cl:List (Str×Addr))(vs:List V):Prop:=∀(i:Nat) (v:V),vs[i]?=some v->∃x a o u,cl[i]?=some (x,a)/\F a=some (.frz o (.own a))/\o.data = .cell (some u)/\RelV v u
inductive D where
 |int (i:Int) |bl (b:Bool) |non |str (x:Str) |ty (n:String) |fn (x:Str) |tup (ds:List D) |lst (ds:List D) |dic |exc (c:Str) |obj (c:Str) (ns:List Str) (ds:List D) |clo (q:Str) (st:Stmt) (cl:List (Str×Addr)) (ds:List D)
def clsφ (a:Addr)(c:Value):Heap->Prop:=λh=>∃o,h.get? a=some o/\o.cls=c
mutual
def Rep (K:Frag)(F:Hp):D->V->Prop
 | .int i,v=>v = .int i
 | .bl b,v=>v = .bl b
 | .non,v=>v = .non
 | .str x,v=>v = .str x
 | .ty n,v=>v = .ty n
 | .fn x,v=>∃f,v = .ref f/\nsIn K mainGlobals x=some (some (.ref f))
 | .tup ds,v=>∃a vs,v = .ref a/\SqT K F a vs/\Reps K F ds vs
 | .lst ds,v=>∃a vs,v = .ref a/\SqL K F a vs/\Reps K F ds vs
 | .dic,v=>∃a,v = .ref a/\F a=some (.ext (clsφ a (.type "dict")))
 | .exc c,v=>∃a C,v = .ref a/\nsIn K mainGlobals c=some (some (.ref C))/\F a=some (.ext (clsφ a (.ref C)))
 | .obj c ns ds,v=>∃a C dx vs,v = .ref a/\nsIn K mainGlobals c=some (some (.ref C))/\F a=some (.ins C dx (ns.zip vs))/\ds.length<=ns.length/\Reps K F ds vs
 | .clo q st cl ds,v=>∃f c oc doc pm ctv vs,v = .ref f/\F f=some (.frz (cloObj q st cl doc pm c ctv) (.own f))/\F c=some (.frz oc (.own c))/\isCod oc q/\Reps K F ds vs/\CellsF F cl vs
def Reps (K:Frag)(F:Hp):List D->List V->Prop
 | [],vs=>vs=[]
 |d::ds,vs=>∃v r,vs=v::r/\Rep K F d v/\Reps K F ds r
end
section
variable {K:Frag}{F F' H H':Hp}
mutual
theorem Rep.mono (s:Same F F'): ∀{d:D} {v:V},Rep K F d v->Rep K F' d v
 | .int _,_,h=>h
 | .bl _,_,h=>h
 | .non,_,h=>h
 | .str _,_,h=>h
 | .ty _,_,h=>h
 | .fn _,_,h=>h
 | .tup ds,v,h=>by
  obtain⟨a,vs,e,h1,h2⟩:=h
  exact⟨a,vs,e,s.seqT h1,Reps.mono s h2⟩
 | .lst ds,v,h=>by
  obtain⟨a,vs,e,h1,h2⟩:=h
  exact⟨a,vs,e,s.seq h1,Reps.mono s h2⟩
 | .dic,v,h=>by
  obtain⟨a,e,h1⟩:=h
  exact⟨a,e,s _ _ h1⟩
 | .exc _,v,h=>by
  obtain⟨a,C,e,h0,h1⟩:=h
  exact⟨a,C,e,h0,s _ _ h1⟩
 | .obj _ _ ds,v,h=>by
  obtain⟨a,C,dx,vs,e,h0,h1,hl,h2⟩:=h
  exact⟨a,C,dx,vs,e,h0,s _ _ h1,hl,Reps.mono s h2⟩
 | .clo _ _ _ ds,v,h=>by
  obtain⟨f,c,oc,doc,pm,ctv,vs,e,h1,h2,h3,h4,h5⟩:=h
  exact⟨f,c,oc,doc,pm,ctv,vs,e,s _ _ h1,s _ _ h2,h3,Reps.mono s h4,λi v hi=>let⟨x,a,o,u,e1,e2,e3⟩:=h5 i v hi;⟨x,a,o,u,e1,s _ _ e2,e3⟩⟩
theorem Reps.mono (s:Same F F'): ∀{ds:List D} {vs:List V},Reps K F ds vs->Reps K F' ds vs
 | [],_,h=>h
 |d::ds,vs,h=>by
  obtain⟨v,r,e,h1,h2⟩:=h
  exact⟨v,r,e,Rep.mono s h1,Reps.mono s h2⟩
end
theorem Reps.length:∀{ds:List D} {vs:List V},Reps K F ds vs->ds.length=vs.length
 | [],_,h=>by cases h;rfl
 |d::ds,vs,h=>by
  obtain⟨v,r,rfl,h1,h2⟩:=h
  simp[Reps.length h2]
theorem Reps.get:∀{ds:List D} {vs:List V} {i:Nat} {d:D},Reps K F ds vs->ds[i]?=some d->∃v,vs[i]?=some v/\Rep K F d v
 | [],_,_,_,_,e=>by simp at e
 |d::ds,vs,i,d',h,e=>by
  obtain⟨v,r,rfl,h1,h2⟩:=h
  cases i with
  |zero=>simp at e;subst e;exact⟨v,rfl,h1⟩
  |succ i=>simpa using Reps.get h2 e
theorem Reps.get':∀{ds:List D} {vs:List V} {i:Nat} {v:V},Reps K F ds vs->vs[i]?=some v->∃d,ds[i]?=some d/\Rep K F d v:=λ{ds vs i v} h e=>by
 have hl:=h.length
 have hi:=(List.getElem?_eq_some_iff.mp e).1
 obtain⟨v',e',r⟩:=h.get (getElem?_eq_getElem (i:=i) (by lia))
 rw[e]at e';cases e'
 exact⟨_,getElem?_eq_getElem (by lia),r⟩
theorem Reps.append:∀{ds es:List D} {vs us:List V},Reps K F ds vs->Reps K F es us->Reps K F (ds++es) (vs++us)
 | [],_,_,_,h,g=>by cases h;exact g
 |d::ds,_,_,_,h,g=>by
  obtain⟨v,r,rfl,h1,h2⟩:=h
  exact⟨v,r++_,rfl,h1,Reps.append h2 g⟩
theorem Reps.take:∀{ds:List D} {vs:List V} (n:Nat),Reps K F ds vs->Reps K F (ds.take n) (vs.take n)
 | [],_,n,h=>by cases h;simp[Reps]
 |d::ds,_,0,h=>by simp[Reps]
 |d::ds,_,n+1,h=>by
  obtain⟨v,r,rfl,h1,h2⟩:=h
  exact⟨v,r.take n,rfl,h1,Reps.take n h2⟩
theorem Reps.drop:∀{ds:List D} {vs:List V} (n:Nat),Reps K F ds vs->Reps K F (ds.drop n) (vs.drop n)
 | [],_,n,h=>by cases h;simp[Reps]
 |d::ds,_,0,h=>h
 |d::ds,_,n+1,h=>by
  obtain⟨v,r,rfl,h1,h2⟩:=h
  simpa using Reps.drop n h2
theorem Reps.of:∀{ds:List D} {vs:List V},ds.length=vs.length->(∀(i:Nat) d v,ds[i]?=some d->vs[i]?=some v->Rep K F d v)->Reps K F ds vs
 | [],[],_,_=>rfl
 |d::ds,v::vs,e,h=>⟨v,vs,rfl,h 0 d v rfl rfl,Reps.of (by simpa using e) λi d' v' e1 e2=>h (i+1) d' v' e1 e2⟩
 | [],_::_,e,_=>by simp at e
 |_::_,[],e,_=>by simp at e
theorem Reps.reverse (h:Reps K F ds vs): Reps K F ds.reverse vs.reverse:=by
 have hl:=h.length
 refine Reps.of (by simp[hl]) λi d v e1 e2=>?_
 have h1:=(List.getElem?_eq_some_iff.mp e1).1
 rw[List.length_reverse]at h1
 rw[List.getElem?_reverse (by omega)]at e1
 rw[List.getElem?_reverse (by lia),<- hl]at e2
 obtain⟨v',e',r⟩:=h.get e1
 rw[e2]at e';cases e';exact r
theorem reps_ints:∀{xs:List Int} {vs:List V},Reps K F (xs.map D.int) vs↔vs=xs.map V.int
 | [],vs=>Iff.rfl
 |x :: xs,vs=>by
  constructor
  .rintro ⟨v,r,rfl,h1,h2⟩
   have h1':v=V.int x:=h1
   rw[h1',reps_ints.mp h2];rfl
  .rintro rfl
   exact⟨_,_,rfl,rfl,reps_ints.mpr rfl⟩
end
def imm:HO->Bool
 | .tup _=>true
 | .frz _ _=>true
 |_=>false
inductive OV where
 |fz (d:D)
 |nl (ts:List OV)
 |rt (a:Addr) (ts:List OV)
 |fx (v:V) (d:D)
 |ob (o:Option Addr) (c:Str) (ns:List Str) (ts:List OV)
mutual
def OV.val:OV->D
 | .fz d=>d
 | .nl ts=>.lst (OV.vals ts)
 | .rt _ ts=>.lst (OV.vals ts)
 | .fx _ d=>d
 | .ob _ c ns ts=>.obj c ns (OV.vals ts)
def OV.vals:List OV->List D
 | []=>[]
 |t::ts=>t.val::OV.vals ts
end
theorem OV.vals_eq:∀(ts:List OV),OV.vals ts=ts.map OV.val
 | []=>by simp[OV.vals]
 |t::ts=>by simp[OV.vals,OV.vals_eq ts]
mutual
def RepO (K:Frag)(F H:Hp):OV->V->List Addr->Prop
 | .fz d,v,A=>A=[]/\Rep K F d v
 | .nl ts,v,A=>∃a vs B,v = .ref a/\A=a::B/\H a=some (.lst vs)/\RepOs K F H ts vs B
 | .rt a ts,v,A=>∃vs B,v = .ref a/\A=a::B/\H a=some (.lst vs)/\RepOs K F H ts vs B
 | .fx u d,v,A=>A=[]/\v=u/\Rep K F d v
 | .ob o c ns ts,v,A=>∃a C dx vs B,v = .ref a/\A=a::dx::B/\nsIn K mainGlobals c=some (some (.ref C))/\(∀a',o=some a'->a=a')/\H a=some (.ins C dx (ns.zip vs))/\H dx=some (.own a)/\ts.length<=ns.length/\RepOs K F H ts vs B
def RepOs (K:Frag)(F H:Hp):List OV->List V->List Addr->Prop
 | [],vs,A=>vs=[]/\A=[]
 |t::ts,vs,A=>∃v r B C,vs=v::r/\A=B++C/\RepO K F H t v B/\RepOs K F H ts r C
end
section
variable {K:Frag}{F F' H H':Hp}
mutual
theorem RepO.frame (s:Same F F'): ∀{t:OV} {v:V} {A:List Addr},(∀a∈A,∀xs,H a=some xs->H' a=some xs)->RepO K F H t v A->RepO K F' H' t v A
 | .fz d,v,A,_,h=>⟨h.1,h.2.mono s⟩
 | .nl ts,v,A,hk,h=>by
  obtain⟨a,vs,B,e,rfl,h1,h2⟩:=h
  exact⟨a,vs,B,e,rfl,hk a mem_cons_self _ h1,RepOs.frame s (λb hb=>hk b (mem_cons_of_mem _ hb)) h2⟩
 | .rt a ts,v,A,hk,h=>by
  obtain⟨vs,B,e,rfl,h1,h2⟩:=h
  exact⟨vs,B,e,rfl,hk a mem_cons_self _ h1,RepOs.frame s (λb hb=>hk b (mem_cons_of_mem _ hb)) h2⟩
 | .fx u d,v,A,_,h=>⟨h.1,h.2.1,h.2.2.mono s⟩
 | .ob o c ns ts,v,A,hk,h=>by
  obtain⟨a,C,dx,vs,B,e,rfl,h0,ho,h1,h2,hl,h3⟩:=h
  exact⟨a,C,dx,vs,B,e,rfl,h0,ho,hk a (by simp) _ h1,hk dx (by simp) _ h2,hl,RepOs.frame s (λb hb=>hk b (by simp[hb])) h3⟩
theorem RepOs.frame (s:Same F F'): ∀{ts:List OV} {vs:List V} {A:List Addr},(∀a∈A,∀xs,H a=some xs->H' a=some xs)->RepOs K F H ts vs A->RepOs K F' H' ts vs A
 | [],vs,A,_,h=>h
 |t::ts,vs,A,hk,h=>by
  obtain⟨v,r,B,C,e,rfl,h1,h2⟩:=h
  exact⟨v,r,B,C,e,rfl,RepO.frame s (λb hb=>hk b (mem_append_left _ hb)) h1,RepOs.frame s (λb hb=>hk b (mem_append_right _ hb)) h2⟩
end
mutual
theorem RepO.isl:∀{t:OV} {v:V} {A:List Addr},RepO K F H t v A->∀a∈A,∃xs,H a=some xs/\imm xs=false
 | .fz d,v,A,h,a,ha=>by rw[h.1]at ha;cases ha
 | .nl ts,v,A,h,a,ha=>by
  obtain⟨b,vs,B,e,rfl,h1,h2⟩:=h
  rcases mem_cons.mp ha with rfl |z
  .exact ⟨_,h1,rfl⟩
  .exact RepOs.isl h2 a z
 | .rt b ts,v,A,h,a,ha=>by
  obtain⟨vs,B,e,rfl,h1,h2⟩:=h
  rcases mem_cons.mp ha with rfl |z
  .exact ⟨_,h1,rfl⟩
  .exact RepOs.isl h2 a z
 | .fx u d,v,A,h,a,ha=>by rw[h.1]at ha;cases ha
 | .ob o c ns ts,v,A,h,a,ha=>by
  obtain⟨b,C,dx,vs,B,e,rfl,h0,ho,h1,h2,hl,h3⟩:=h
  rcases mem_cons.mp ha with rfl |z
  .exact ⟨_,h1,rfl⟩
  .rcases mem_cons.mp z with rfl |z
   .exact ⟨_,h2,rfl⟩
   .exact RepOs.isl h3 a z
theorem RepOs.isl:∀{ts:List OV} {vs:List V} {A:List Addr},RepOs K F H ts vs A->∀a∈A,∃xs,H a=some xs/\imm xs=false
 | [],vs,A,h,a,ha=>by rw[h.2]at ha;cases ha
 |t::ts,vs,A,h,a,ha=>by
  obtain⟨v,r,B,C,e,rfl,h1,h2⟩:=h
  rcases mem_append.mp ha with z |z
  .exact RepO.isl h1 a z
  .exact RepOs.isl h2 a z
end
mutual
theorem RepO.rep (s:Same F F'): ∀{t:OV} {v:V} {A:List Addr},(∀a∈A,∀xs,H a=some xs->F' a=some xs)->RepO K F H t v A->Rep K F' t.val v
 | .fz d,v,A,_,h=>h.2.mono s
 | .nl ts,v,A,hk,h=>by
  obtain⟨a,vs,B,e,rfl,h1,h2⟩:=h
  exact⟨a,vs,e,SqL.of (hk a mem_cons_self _ h1),RepOs.rep s (λb hb=>hk b (mem_cons_of_mem _ hb)) h2⟩
 | .fx u d,v,A,_,h=>h.2.2.mono s
 | .ob o c ns ts,v,A,hk,h=>by
  obtain⟨a,C,dx,vs,B,e,rfl,h0,ho,h1,h2,hl,h3⟩:=h
  exact⟨a,C,dx,vs,e,h0,hk a (by simp) _ h1,by rw[OV.vals_eq,length_map];exact hl,RepOs.rep s (λb hb=>hk b (by simp[hb])) h3⟩
 | .rt a ts,v,A,hk,h=>by
  obtain⟨vs,B,e,rfl,h1,h2⟩:=h
  exact⟨a,vs,e,SqL.of (hk a mem_cons_self _ h1),RepOs.rep s (λb hb=>hk b (mem_cons_of_mem _ hb)) h2⟩
theorem RepOs.rep (s:Same F F'):∀{ts:List OV} {vs:List V} {A:List Addr},(∀a∈A,∀xs,H a=some xs->F' a=some xs)->RepOs K F H ts vs A->Reps K F' (OV.vals ts) vs
 | [],vs,A,_,h=>h.1
 |t::ts,vs,A,hk,h=>by
  obtain⟨v,r,B,C,e,rfl,h1,h2⟩:=h
  exact⟨v,r,e,RepO.rep s (λb hb=>hk b (mem_append_left _ hb)) h1,RepOs.rep s (λb hb=>hk b (mem_append_right _ hb)) h2⟩
end
theorem RepOs.length:∀{ts:List OV} {vs:List V} {A:List Addr},RepOs K F H ts vs A->ts.length=vs.length
 | [],_,_,h=>by rw[h.1];rfl
 |t::ts,_,_,h=>by
  obtain⟨v,r,B,C,rfl,rfl,h1,h2⟩:=h
  simp[RepOs.length h2]
theorem RepOs.append:∀{ts us:List OV} {vs ws:List V} {A B:List Addr},RepOs K F H ts vs A->RepOs K F H us ws B->RepOs K F H (ts++us) (vs++ws) (A++B)
 | [],_,_,_,_,_,h,g=>by obtain⟨rfl,rfl⟩:=h;exact g
 |t::ts,_,_,_,_,_,h,g=>by
  obtain⟨v,r,B,C,rfl,rfl,h1,h2⟩:=h
  exact⟨v,_,B,_,rfl,by rw[List.append_assoc],h1,RepOs.append h2 g⟩
theorem RepOs.one (h:RepO K F H t v A): RepOs K F H [t] [v] A:=⟨v,[],A,[],rfl,by simp,h,rfl,rfl⟩
theorem RepOs.focus:∀{ts:List OV} {vs:List V} {A:List Addr} {i:Nat} {t:OV},RepOs K F H ts vs A->ts[i]?=some t->∃v A1 B A2,vs[i]?=some v/\A=A1++(B++A2)/\RepO K F H t v B/\
  ∀F' H' t' v' B',Same F F'->(∀a∈A1++A2,∀xs,H a=some xs->H' a=some xs)->RepO K F' H' t' v' B'->RepOs K F' H' (ts.set i t') (vs.set i v') (A1++(B'++A2))
 | [],_,_,_,_,_,e=>by simp at e
 |t::ts,_,_,0,t0,h,e=>by
  obtain⟨v,r,B,C,rfl,rfl,h1,h2⟩:=h
  simp at e
  subst e
  refine⟨v,[],B,C,rfl,rfl,h1,λF' H' t' v' B' s hk h'=>?_⟩
  exact⟨v',r,B',C,rfl,rfl,h',RepOs.frame s (λa ha=>hk a ha) h2⟩
 |t::ts,_,_,i+1,t0,h,e=>by
  obtain⟨v,r,B,C,rfl,rfl,h1,h2⟩:=h
  obtain⟨v0,A1,B0,A2,e1,rfl,h3,h4⟩:=RepOs.focus h2 e
  refine⟨v0,B++A1,B0,A2,e1,by simp,h3,λF' H' t' v' B' s hk h'=>?_⟩
  refine⟨v,r.set i v',B,A1++(B'++A2),rfl,by simp,RepO.frame s (λa ha=>hk a (by simp[ha])) h1,h4 F' H' t' v' B' s (λa ha=>hk a ?_) h'⟩
  rcases mem_append.mp ha with z |z<;>simp[z]
theorem RepOs.fzs:∀{ds:List D} {vs:List V},Reps K F ds vs->RepOs K F H (ds.map OV.fz) vs []
 | [],_,h=>⟨h,rfl⟩
 |d::ds,_,h=>by
  obtain⟨v,r,rfl,h1,h2⟩:=h
  exact⟨v,r,[],[],rfl,rfl,⟨rfl,h1⟩,RepOs.fzs h2⟩
end
structure Ext (F H F' H':Hp):Prop where
 ff:Same F F'
 hh:Same H H'
 fh:Same F' H'
 no:∀a o,F a=none->H a=some o->imm o=false->F' a=none
theorem Ext.refl (s:Same F H): Ext F H F H:=⟨Same.refl _,Same.refl _,s,λ_ _ h _ _=>h⟩
theorem Ext.trans (a:Ext F H F' H')(b:Ext F' H' F'' H''): Ext F H F'' H'':=
 ⟨a.ff.trans b.ff,a.hh.trans b.hh,b.fh,λx o h1 h2 h3=>b.no x o (a.no x o h1 h2 h3) (a.hh _ _ h2) h3⟩
def RepN (K:Frag)(H F' H':Hp)(r:OV)(v:V):Prop:=∃A,RepO K F' H' r v A/\A.Nodup/\∀a∈A,H a=none/\F' a=none
theorem RepN.fz {K:Frag}{H F' H':Hp}{d:D}{v:V}(h:Rep K F' d v):RepN K H F' H' (.fz d) v:=⟨[],⟨rfl,h⟩,nodup_nil,λ_ h=>by cases h⟩
theorem RepN.old {K:Frag}{H0 H F' H':Hp}{r:OV}{v:V}(s:Same H0 H)(h:RepN K H F' H' r v):RepN K H0 F' H' r v:=by
 obtain⟨A,h1,h2,h3⟩:=h
 exact⟨A,h1,h2,λa ha=>⟨s.free (h3 a ha).1,(h3 a ha).2⟩⟩
theorem RepN.on {K:Frag}{H F' H' F'' H'':Hp}{r:OV}{v:V}(h:RepN K H F' H' r v)(x:Ext F' H' F'' H''):RepN K H F'' H'' r v:=by
 obtain⟨A,h1,h2,h3⟩:=h
 refine⟨A,h1.frame x.ff λa _ xs e=>x.hh _ _ e,h2,λa ha=>⟨(h3 a ha).1,?_⟩⟩
 obtain⟨xs,e,ei⟩:=h1.isl a ha
 exact x.no a _ (h3 a ha).2 e ei
theorem RepN.frz {K:Frag}{F H F' H':Hp}{r:OV}{v:V}(x:Ext F H F' H')(h:RepN K H F' H' r v):∃F'',Ext F H F'' H'/\Same F' F''/\Rep K F'' r.val v:=by
 obtain⟨A,h1,h2,h3⟩:=h
 refine⟨λa=>if a∈A then H' a else F' a,⟨λb o e=>?_,x.hh,λb o e=>?_,λa o e1 e2 e3=>?_⟩,λb o e=>?_,?_⟩
 .have hb:b∉A:=λz=>by rw[(x.ff.free (h3 b z).2)]at e;cases e
  rw[if_neg hb];exact x.ff _ _ e
 .split at e
  .exact e
  .exact x.fh _ _ e
 .have ha:a∉A:=λz=>by rw[(h3 a z).1]at e2;cases e2
  rw[if_neg ha];exact x.no a o e1 e2 e3
 .have hb:b∉A:=λz=>by rw[(h3 b z).2]at e;cases e
  try dsimp only
  rw[if_neg hb];exact e
 .refine h1.rep (λb o e=>?_) λa ha xs e=>?_
  .have hb:b∉A:=λz=>by rw[(h3 b z).2]at e;cases e
   rw[if_neg hb];exact e
  .rw [if_pos ha];exact e
inductive Sl where
 |own (t:OV)
 |bw (d:D)
abbrev Dst:=List (Option Sl)
structure ER (K:Frag) (F0 H0 F H:Hp) (Y:St) (G:Dst) (A:Nat->List Addr):Prop where
 len:Y.length=G.length
 ext:Ext F0 H0 F H
 own:∀(i:Nat) (t:OV),G[i]?=some (some (.own t))->∃v,Y[i]?=some (some v)/\RepO K F H t v (A i)
 bw:∀(i:Nat) (d:D),G[i]?=some (some (.bw d))->∃v,Y[i]?=some (some v)/\Rep K H0 d v
 nod:∀i,(A i).Nodup
 dis:∀i j a,i≠j->a∈A i->a∉A j
 new:∀i a,a∈A i->F a=none/\H0 a=none/\∃xs,H a=some xs/\imm xs=false
def EnvR (K:Frag)(F0 H0 F H:Hp)(Y:St)(G:Dst):Prop:=∃A,ER K F0 H0 F H Y G A
section
variable {K:Frag}{F0 H0 F H F' H':Hp}{Y:St}{G:Dst}{A:Nat->List Addr}
theorem ER.on (e:ER K F0 H0 F H Y G A)(x:Ext F H F' H'): ER K F0 H0 F' H' Y G A where
 len:=e.len
 ext:=e.ext.trans x
 own:=λi t h=>by
  obtain⟨v,h1,h2⟩:=e.own i t h
  exact⟨v,h1,h2.frame x.ff λa _ xs z=>x.hh _ _ z⟩
 bw:=e.bw
 nod:=e.nod
 dis:=e.dis
 new:=λi a ha=>by
  obtain⟨h1,h2,xs,h3,h4⟩:=e.new i a ha
  exact⟨x.no a _ h1 h3 h4,h2,xs,x.hh _ _ h3,h4⟩
theorem EnvR.on (e:EnvR K F0 H0 F H Y G)(x:Ext F H F' H'): EnvR K F0 H0 F' H' Y G:=let⟨A,e⟩:=e;⟨A,e.on x⟩
theorem EnvR.ext (e:EnvR K F0 H0 F H Y G): Ext F0 H0 F H:=let⟨_,e⟩:=e;e.ext
theorem EnvR.put (e:EnvR K F0 H0 F H Y G)(x:Ext F H F' H')(i:Nat)(h:RepN K H F' H' r v): EnvR K F0 H0 F' H' (Y.set i (some v)) (G.set i (some (.own r))):=by
 obtain⟨A,e⟩:=e
 obtain⟨B,b1,b2,b3⟩:=h
 have e':=e.on x
 refine⟨λj=>if j=i then B else A j,by simp[e.len],e'.ext,λj t hj=>?_,λj d hj=>?_,λj=>?_,λj k a hjk h1 h2=>?_,λj a ha=>?_⟩
 .by_cases z:j=i
  .subst z
   rw[if_pos rfl]
   have hl:j<G.length:=by
    have:=(List.getElem?_eq_some_iff.mp hj).1
    rwa[length_set]at this
   rw[getElem?_set_self hl]at hj
   cases hj
   exact⟨v,getElem?_set_self (by rw[e.len];exact hl),b1⟩
  .rw [if_neg z]
   rw[getElem?_set_ne (Ne.symm z)]at hj ⊢
   exact e'.own j t hj
 .by_cases z:j=i
  .subst z
   have hl:j<G.length:=by
    have:=(List.getElem?_eq_some_iff.mp hj).1
    rwa[length_set]at this
   rw[getElem?_set_self hl]at hj
   cases hj
  .rw [getElem?_set_ne (Ne.symm z)]at hj ⊢
   exact e'.bw j d hj
 .split
  .exact b2
  .exact e.nod j
 .have key:∀k,a∈B->a∈A k->False:=λk z1 z2=>by
   obtain⟨_,_,xs,q,_⟩:=e.new k a z2
   rw[(b3 a z1).1]at q;cases q
  split at h1
  .split at h2
   .lia
   .exact key _ h1 h2
  .split at h2
   .exact key _ h2 h1
   .exact e.dis j k a hjk h1 h2
 .split at ha
  .exact ⟨(b3 a ha).2,e.ext.hh.free (b3 a ha).1,b1.isl a ha⟩
  .exact e'.new j a ha
theorem ER.putFz (e:ER K F0 H0 F H Y G A)(i:Nat)(h:Rep K F d v): ER K F0 H0 F H (Y.set i (some v)) (G.set i (some (.own (.fz d)))) (λj=>if j=i then [] else A j):=by
 refine⟨by simp[e.len],e.ext,λj t hj=>?_,λj d hj=>?_,λj=>?_,λj k a hjk h1 h2=>?_,λj a ha=>?_⟩
 .by_cases z:j=i
  .subst z
   rw[if_pos rfl]
   have hl:j<G.length:=by
    have:=(List.getElem?_eq_some_iff.mp hj).1
    rwa[length_set]at this
   rw[getElem?_set_self hl]at hj
   cases hj
   exact⟨v,getElem?_set_self (by rw[e.len];exact hl),rfl,h⟩
  .rw [if_neg z]
   rw[getElem?_set_ne (Ne.symm z)]at hj ⊢
   exact e.own j t hj
 .by_cases z:j=i
  .subst z
   have hl:j<G.length:=by
    have:=(List.getElem?_eq_some_iff.mp hj).1
    rwa[length_set]at this
   rw[getElem?_set_self hl]at hj
   cases hj
  .rw [getElem?_set_ne (Ne.symm z)]at hj ⊢
   exact e.bw j d hj
 .split
  .exact nodup_nil
  .exact e.nod j
 .split at h1
  .cases h1
  .split at h2
   .cases h2
   .exact e.dis j k a hjk h1 h2
 .split at ha
  .cases ha
  .exact e.new j a ha
end
abbrev DE:=Dst->(D->Prop)->Prop
abbrev DO:=Dst->(OV->Prop)->Prop
abbrev DA:=Dst->(List D->Prop)->Prop
abbrev DAO:=Dst->(List OV->Prop)->Prop
abbrev DT:=Dst->(Bool->Prop)->Prop
structure DEnds where
 nx:Dst->Prop
 rt:OV->Prop
 bk:Dst->Prop:=λ_=>False
 ct:Dst->Prop:=λ_=>False
abbrev DS:=DEnds->Dst->Prop
section
variable (K:Frag)
def SimO (t:TE)(E:DO):Prop:=∀F0 H0 F H Y G P Q,EnvR K F0 H0 F H Y G->E G P->(∀r v F' H',P r->Ext F H F' H'->RepN K H F' H' r v->Q v H')->t Y H Q
def SimF (t:TE)(E:DE):Prop:=∀F0 H0 F H Y G P Q,EnvR K F0 H0 F H Y G->E G P->(∀d v F' H',P d->Ext F H F' H'->Rep K F' d v->Q v H')->t Y H Q
def SimB (t:TE)(E:DE):Prop:=∀F0 H0 F H Y G P Q,EnvR K F0 H0 F H Y G->E G P->(∀d v F' H',P d->Ext F H F' H'->Rep K H' d v->Q v H')->t Y H Q
def SimT (t:TT)(C:DT):Prop:=∀F0 H0 F H Y G P Q,EnvR K F0 H0 F H Y G->C G P->(∀b F' H',P b->Ext F H F' H'->Q b H')->t Y H Q
def SimAF (t:TA)(E:DA):Prop:=∀F0 H0 F H Y G P Q,EnvR K F0 H0 F H Y G->E G P->(∀ds vs F' H',P ds->Ext F H F' H'->Reps K F' ds vs->Q vs H')->t Y H Q
def SimAB (t:TA)(E:DA):Prop:=∀F0 H0 F H Y G P Q,EnvR K F0 H0 F H Y G->E G P->(∀ds vs F' H',P ds->Ext F H F' H'->Reps K H' ds vs->Q vs H')->t Y H Q
def RepNs (H F' H':Hp)(rs:List OV)(vs:List V):Prop:=∃A,RepOs K F' H' rs vs A/\A.Nodup/\∀a∈A,H a=none/\F' a=none
def SimAO (t:TA)(E:DAO):Prop:=∀F0 H0 F H Y G P Q,EnvR K F0 H0 F H Y G->E G P->(∀rs vs F' H',P rs->Ext F H F' H'->RepNs K H F' H' rs vs->Q vs H')->t Y H Q
structure Lk (F0 H0:Hp) (De:DEnds) (E:Ends):Prop where
 nx:∀F H Y G,EnvR K F0 H0 F H Y G->De.nx G->E.nx Y H
 bk:∀F H Y G,EnvR K F0 H0 F H Y G->De.bk G->E.bk Y H
 ct:∀F H Y G,EnvR K F0 H0 F H Y G->De.ct G->E.ct Y H
 rt:∀F H r v,Ext F0 H0 F H->RepN K H0 F H r v->De.rt r->E.rt v H
def SimS (t:TS)(T:DS):Prop:=∀F0 H0 F H Y G De E,EnvR K F0 H0 F H Y G->Lk K F0 H0 De E->T De G->t E Y H
def SimG (g:TG)(δ:D->Dst->(Dst->Prop)->Prop):Prop:=∀F0 H0 F H Y G A d v P Q,ER K F0 H0 F H Y G A->Rep K F d v->δ d G P->(∀Y' G' A',P G'->ER K F0 H0 F H Y' G' A'->(∀i a,a∈A' i->a∈A i)->Q Y' H)->g v Y H Q
end
section
variable {K:Frag}{t ta tb tc:TE}{E Ea Eb Ec:DE}
def dFz (E:DE):DO:=λG P=>E G λd=>P (.fz d)
def dVal (E:DO):DE:=λG P=>E G λr=>P r.val
theorem sB_f (h:SimF K t E): SimB K t E:=λF0 H0 F H Y G P Q e w q=>h F0 H0 F H Y G P Q e w λd v F' H' p x r=>q d v F' H' p x (r.mono x.fh)
theorem sO_f (h:SimF K t E): SimO K t (dFz E):=λF0 H0 F H Y G P Q e w q=>h F0 H0 F H Y G _ Q e w λd v F' H' p x r=>q _ v F' H' p x (.fz r)
theorem sF_o {E:DO}(h:SimO K t E):SimF K t (dVal E):=λF0 H0 F H Y G P Q e w q=>h F0 H0 F H Y G _ Q e w λd v F' H' p x r=>by
 obtain⟨F'',x',_,r'⟩:=r.frz x
 exact q _ v F'' H' p x' r'
mutual
def D.lf:D->Bool
 | .tup ds=>D.lfs ds
 | .lst _=>false
 | .dic=>false
 | .exc _=>false
 | .obj _ _ _=>false
 | .clo _ _ _ _=>false
 |_=>true
def D.lfs:List D->Bool
 | []=>true
 |d::ds=>d.lf && D.lfs ds
end
def frzT (F H:Hp):Hp:=λa=>match F a with
 |some o=>some o
 |none=>match H a with
  |some o=>if imm o=true then some o else none
  |none=>none
theorem frzT_ext (s:Same F H): Ext F H (frzT F H) H:=by
 refine⟨λb o e=>?_,Same.refl _,λb o e=>?_,λa o e1 e2 e3=>?_⟩
 .unfold frzT;rw[e]
 .unfold frzT at e
  cases q:F b with
  |some o'=>rw[q]at e;rw[<- e];exact s _ _ q
  |none=>
   rw[q]at e
   cases q2:H b with
   |none=>rw[q2]at e;cases e
   |some o'=>
    rw[q2]at e
    dsimp only at e
    split at e
    .exact e
    .cases e
 .unfold frzT;rw[e1,e2]
  dsimp only
  rw[e3];rfl
theorem frzT_imm (s:Same F H)(h:H a=some o)(hi:imm o=true): frzT F H a=some o:=by
 unfold frzT
 cases q:F a with
 |some o'=>rw[s _ _ q]at h;exact h
 |none=>rw[h];dsimp only;rw[hi];rfl
theorem frzT_seqT (s:Same F H)(h:SqT K H a xs): SqT K (frzT F H) a xs:=by
 rcases h with (h | ⟨o,h⟩) |h
 .exact .inl (.inl (frzT_imm s h rfl))
 .exact .inl (.inr ⟨o,frzT_imm s h rfl⟩)
 .exact .inr h
mutual
theorem Rep.lf (s:Same F H): ∀{d:D} {v:V},Rep K H d v->d.lf=true->Rep K (frzT F H) d v
 | .int _,_,h,_=>h
 | .bl _,_,h,_=>h
 | .non,_,h,_=>h
 | .str _,_,h,_=>h
 | .ty _,_,h,_=>h
 | .fn _,_,h,_=>h
 | .tup ds,v,h,z=>by
  obtain⟨a,vs,e,h1,h2⟩:=h
  exact⟨a,vs,e,frzT_seqT s h1,Reps.lf s h2 (by simpa[D.lf] using z)⟩
 | .lst ds,v,h,z=>by simp[D.lf]at z
 | .dic,v,h,z=>by simp[D.lf]at z
 | .exc _,v,h,z=>by simp[D.lf]at z
 | .obj _ _ _,v,h,z=>by simp[D.lf]at z
 | .clo _ _ _ _,v,h,z=>by simp[D.lf]at z
theorem Reps.lf (s:Same F H): ∀{ds:List D} {vs:List V},Reps K H ds vs->D.lfs ds=true->Reps K (frzT F H) ds vs
 | [],_,h,_=>h
 |d::ds,vs,h,z=>by
  obtain⟨v,r,e,h1,h2⟩:=h
  simp[D.lfs]at z
  exact⟨v,r,e,Rep.lf s h1 z.1,Reps.lf s h2 z.2⟩
end
theorem D.lfs_eq:∀(ds:List D),D.lfs ds=ds.all D.lf
 | []=>rfl
 |d::ds=>by simp[D.lfs,D.lfs_eq ds]
def dLf (E:DE):DE:=λG P=>E G λd=>d.lf=true/\P d
theorem sF_lf (h:SimB K t E): SimF K t (dLf E):=λF0 H0 F H Y G P Q e w q=>h F0 H0 F H Y G _ Q e w λd v F' H' p x r=>
 q d v _ H' p.2 (x.trans (frzT_ext x.fh)) (Rep.lf x.fh r p.1)
def dV (i:Nat):DE:=λG P=>match G[i]? with
 |some (some (.own (.fz d)))=>P d
 |some (some (.own (.fx _ d)))=>P d
 |_=>False
def dB (i:Nat):DE:=λG P=>match G[i]? with
 |some (some (.own t))=>P t.val
 |some (some (.bw d))=>P d
 |_=>False
theorem sF_var:SimF K (tVar i) (dV i):=λF0 H0 F H Y G P Q ⟨A,e⟩ w q=>by
 unfold dV at w
 split at w
 .rename_i d hd
  obtain⟨v,h1,h2⟩:=e.own i _ hd
  exact⟨v,h1,q d v F H w (Ext.refl e.ext.fh) h2.2⟩
 .rename_i u d hd
  obtain⟨v,h1,h2⟩:=e.own i _ hd
  exact⟨v,h1,q d v F H w (Ext.refl e.ext.fh) h2.2.2⟩
 .exact w.elim
theorem sB_var:SimB K (tVar i) (dB i):=λF0 H0 F H Y G P Q ⟨A,e⟩ w q=>by
 unfold dB at w
 split at w
 .rename_i t hd
  obtain⟨v,h1,h2⟩:=e.own i _ hd
  exact⟨v,h1,q _ v F H w (Ext.refl e.ext.fh) (h2.rep e.ext.fh λa _ xs z=>z)⟩
 .rename_i d hd
  obtain⟨v,h1,h2⟩:=e.bw i _ hd
  exact⟨v,h1,q _ v F H w (Ext.refl e.ext.fh) (h2.mono e.ext.hh)⟩
 .exact w.elim
def dC (d:D):DE:=λ_ P=>P d
theorem sF_c (h:∀F,Rep K F d v): SimF K (tC v) (dC d):=λF0 H0 F H Y G P Q e w q=>q d v F H w (Ext.refl e.ext.fh) (h _)
theorem sF_int:SimF K (tC (.int i)) (dC (.int i)):=sF_c λ_=>rfl
theorem sF_bl:SimF K (tC (.bl b)) (dC (.bl b)):=sF_c λ_=>rfl
theorem sF_str:SimF K (tC (.str x)) (dC (.str x)):=sF_c λ_=>rfl
theorem sF_ty:SimF K (tC (.ty n)) (dC (.ty n)):=sF_c λ_=>rfl
abbrev DR2:=D->D->(D->Prop)->Prop
def OpS (K:Frag)(R:R2)(r:DR2):Prop:=∀F H x y v u P Q,Same F H->Rep K H x v->Rep K H y u->r x y P->(∀d w F' H',P d->Ext F H F' H'->Rep K F' d w->Q w H')->R v u H Q
def OpB (K:Frag)(R:R2)(r:DR2):Prop:=∀H x y v u P Q,Rep K H x v->Rep K H y u->r x y P->(∀d w,P d->Rep K H d w->Q w H)->R v u H Q
def dOp (r:DR2)(Ea Eb:DE):DE:=λG P=>Ea G λx=>Eb G λy=>r x y P
theorem sF_op (h:OpS K R r)(ha:SimB K ta Ea)(hb:SimB K tb Eb): SimF K (tOp R ta tb) (dOp r Ea Eb):=λF0 H0 F H Y G P Q e w q=>
 ha F0 H0 F H Y G _ _ e w λx v F1 H1 w1 x1 r1=>hb F0 H0 F1 H1 Y G _ _ (e.on x1) w1 λy u F2 H2 w2 x2 r2=>
  h F2 H2 x y v u P _ x2.fh (r1.mono x2.hh) r2 w2 λd w F' H' p x' r'=>q d w F' H' p (x1.trans (x2.trans x')) r'
theorem sB_op (h:OpB K R r)(ha:SimB K ta Ea)(hb:SimB K tb Eb): SimB K (tOp R ta tb) (dOp r Ea Eb):=λF0 H0 F H Y G P Q e w q=>
 ha F0 H0 F H Y G _ _ e w λx v F1 H1 w1 x1 r1=>hb F0 H0 F1 H1 Y G _ _ (e.on x1) w1 λy u F2 H2 w2 x2 r2=>
  h H2 x y v u P _ (r1.mono x2.hh) r2 w2 λd w p r'=>q d w F2 H2 p (x1.trans x2) r'
def rI2 (g:Int->Int->D):DR2:=λx y P=>match x,y with
 | .int i,.int j=>P (g i j)
 |_,_=>False
def rI2C (C:Int->Int->Prop)(g:Int->Int->D):DR2:=λx y P=>match x,y with
 | .int i,.int j=>C i j/\P (g i j)
 |_,_=>False
theorem rI2_inv {g:Int->Int->D}{P:D->Prop}(h:rI2 g x y P): ∃i j,x = .int i/\y = .int j/\P (g i j):=by
 unfold rI2 at h
 split at h
 .exact ⟨_,_,rfl,rfl,h⟩
 .exact h.elim
theorem rI2C_inv {C:Int->Int->Prop}{g:Int->Int->D}{P:D->Prop}(h:rI2C C g x y P): ∃i j,x = .int i/\y = .int j/\C i j/\P (g i j):=by
 unfold rI2C at h
 split at h
 .exact ⟨_,_,rfl,rfl,h.1,h.2⟩
 .exact h.elim
theorem oS_I0 {g:Int->Int->V}{g':Int->Int->D}(hg:∀F i j,Rep K F (g' i j) (g i j)): OpS K (rI0 g) (rI2 g'):=λF H x y v u P Q s rx ry w q=>by
 obtain⟨i,j,rfl,rfl,p⟩:=rI2_inv w
 exact⟨i,j,rx,ry,q _ _ F H p (Ext.refl s) (hg _ _ _)⟩
theorem oS_I {C:Int->Int->Prop}{g:Int->Int->V}{g':Int->Int->D}(hg:∀F i j,Rep K F (g' i j) (g i j)): OpS K (rI C g) (rI2C C g'):=λF H x y v u P Q s rx ry w q=>by
 obtain⟨i,j,rfl,rfl,c,p⟩:=rI2C_inv w
 exact⟨i,j,rx,ry,c,q _ _ F H p (Ext.refl s) (hg _ _ _)⟩
theorem oS_i0 {g:Int->Int->Int}: OpS K (rI0 λi j=>.int (g i j)) (rI2 λi j=>.int (g i j)):=oS_I0 λ_ _ _=>rfl
theorem oS_i {C:Int->Int->Prop}{g:Int->Int->Int}: OpS K (rI C λi j=>.int (g i j)) (rI2C C λi j=>.int (g i j)):=oS_I λ_ _ _=>rfl
theorem oS_b0 {g:Int->Int->Bool}: OpS K (rI0 λi j=>.bl (g i j)) (rI2 λi j=>.bl (g i j)):=oS_I0 λ_ _ _=>rfl
def rEqD:DR2:=λx y P=>match x,y with
 | .int i,.int j=>P (.bl (decide (i=j)))
 | .str i,.str j=>P (.bl (decide (i=j)))
 | .bl i,.bl j=>P (.bl (decide (i=j)))
 |_,_=>False
def rNeD:DR2:=λx y P=>match x,y with
 | .int i,.int j=>P (.bl (!decide (i=j)))
 | .str i,.str j=>P (.bl (!decide (i=j)))
 | .bl i,.bl j=>P (.bl (!decide (i=j)))
 |_,_=>False
theorem vd_int:decide (V.int i=V.int j)=decide (i=j):=by
 by_cases h:i=j
 .subst h;simp
 .rw [decide_eq_false h,decide_eq_false λz=>h (by injection z)]
theorem vd_str:decide (V.str i=V.str j)=decide (i=j):=by
 by_cases h:i=j
 .subst h;simp
 .rw [decide_eq_false h,decide_eq_false λz=>h (by injection z)]
theorem vd_bl:decide (V.bl i=V.bl j)=decide (i=j):=by
 by_cases h:i=j
 .subst h;simp
 .rw [decide_eq_false h,decide_eq_false λz=>h (by injection z)]
theorem oS_eq:OpS K rEq rEqD:=λF H x y v u P Q s rx ry w q=>by
 unfold rEqD at w
 split at w
 .cases rx;cases ry;exact⟨rfl,by rw[vd_int];exact q _ _ F H w (Ext.refl s) rfl⟩
 .cases rx;cases ry;exact⟨rfl,by rw[vd_str];exact q _ _ F H w (Ext.refl s) rfl⟩
 .cases rx;cases ry;exact⟨rfl,by rw[vd_bl];exact q _ _ F H w (Ext.refl s) rfl⟩
 .exact w.elim
theorem oS_ne:OpS K rNe rNeD:=λF H x y v u P Q s rx ry w q=>by
 unfold rNeD at w
 split at w
 .cases rx;cases ry;exact⟨rfl,by rw[vd_int];exact q _ _ F H w (Ext.refl s) rfl⟩
 .cases rx;cases ry;exact⟨rfl,by rw[vd_str];exact q _ _ F H w (Ext.refl s) rfl⟩
 .cases rx;cases ry;exact⟨rfl,by rw[vd_bl];exact q _ _ F H w (Ext.refl s) rfl⟩
 .exact w.elim
def dTb (E:DE):DT:=λG P=>E G λd=>match d with
 | .bl b=>P b
 |_=>False
theorem sT_of (h:SimF K t E): ∀(F0 H0 F H:Hp) (Y:St) (G:Dst) (P:Bool->Prop) (Q:Bool->Hp->Prop),EnvR K F0 H0 F H Y G->dTb E G P->(∀b F' H',P b->Ext F H F' H'->Q b H')->t Y H λx H'=>∃k,x = .bl k/\Q k H':=λF0 H0 F H Y G P Q e w q=>
 h F0 H0 F H Y G _ _ e w λd v F' H' p x r=>by
  split at p
  .exact ⟨_,r,q _ F' H' p x⟩
  .exact p.elim
theorem sT_test (h:SimF K t E): SimT K (tTest t) (dTb E):=sT_of h
theorem sT_b (h:SimF K t E): SimT K (tB t) (dTb E):=sT_of h
section
variable {ua ub:TT}{Ca Cb:DT}
def dNot (C:DT):DT:=λG P=>C G λb=>P (!b)
def dAnd (Ca Cb:DT):DT:=λG P=>Ca G λb=>if b=true then Cb G P else P false
def dOr (Ca Cb:DT):DT:=λG P=>Ca G λb=>if b=true then P true else Cb G P
theorem sT_not (h:SimT K ua Ca): SimT K (tNot ua) (dNot Ca):=λF0 H0 F H Y G P Q e w q=>h F0 H0 F H Y G _ _ e w λb F' H' p x=>q _ F' H' p x
theorem sT_and (h:SimT K ua Ca)(g:SimT K ub Cb): SimT K (tAnd ua ub) (dAnd Ca Cb):=λF0 H0 F H Y G P Q e w q=>h F0 H0 F H Y G _ _ e w λb F' H' p x=>by
 cases b with
 |true=>exact iteT (g F0 H0 F' H' Y G P Q (e.on x) p λb F2 H2 p2 x2=>q b F2 H2 p2 (x.trans x2))
 |false=>exact iteB rfl (q _ F' H' p x)
theorem sT_or (h:SimT K ua Ca)(g:SimT K ub Cb): SimT K (tOr ua ub) (dOr Ca Cb):=λF0 H0 F H Y G P Q e w q=>h F0 H0 F H Y G _ _ e w λb F' H' p x=>by
 cases b with
 |true=>exact iteT (q _ F' H' p x)
 |false=>exact iteB rfl (g F0 H0 F' H' Y G P Q (e.on x) p λb F2 H2 p2 x2=>q b F2 H2 p2 (x.trans x2))
def dIf (C:DT)(Ea Eb:DE):DE:=λG P=>C G λb=>if b=true then Ea G P else Eb G P
theorem sF_if (h:SimT K ua Ca)(ha:SimF K ta Ea)(hb:SimF K tb Eb): SimF K (tIf ua ta tb) (dIf Ca Ea Eb):=λF0 H0 F H Y G P Q e w q=>h F0 H0 F H Y G _ _ e w λb F' H' p x=>by
 cases b with
 |true=>exact iteT (ha F0 H0 F' H' Y G P Q (e.on x) p λd v F2 H2 p2 x2 r=>q d v F2 H2 p2 (x.trans x2) r)
 |false=>exact iteB rfl (hb F0 H0 F' H' Y G P Q (e.on x) p λd v F2 H2 p2 x2 r=>q d v F2 H2 p2 (x.trans x2) r)
end
def dAndV (Ea Eb:DE):DE:=λG P=>Ea G λx=>match x with
 | .bl c=>if c=true then Eb G P else P (.bl false)
 |_=>False
theorem sF_andV (ha:SimF K ta Ea)(hb:SimF K tb Eb): SimF K (tAndV ta tb) (dAndV Ea Eb):=λF0 H0 F H Y G P Q e w q=>ha F0 H0 F H Y G _ _ e w λd v F' H' p x r=>by
 split at p
 .rename_i c
  refine⟨c,r,?_⟩
  cases c with
  |true=>exact iteT (hb F0 H0 F' H' Y G P Q (e.on x) p λd v F2 H2 p2 x2 r=>q d v F2 H2 p2 (x.trans x2) r)
  |false=>exact iteB rfl (q _ _ F' H' p x rfl)
 .exact p.elim
def dChain (r r':DR2)(Ea Eb Ec:DE):DE:=λG P=>Ea G λx=>Eb G λy=>r x y λz=>match z with
 | .bl k=>if k=true then Ec G λw=>r' y w P else P (.bl false)
 |_=>False
theorem sF_chain (h:OpS K R r)(h':OpS K R' r')(ha:SimB K ta Ea)(hb:SimB K tb Eb)(hc:SimB K tc Ec): SimF K (tChain R R' ta tb tc) (dChain r r' Ea Eb Ec):=λF0 H0 F H Y G P Q e w q=>
 ha F0 H0 F H Y G _ _ e w λx v F1 H1 w1 x1 r1=>hb F0 H0 F1 H1 Y G _ _ (e.on x1) w1 λy u F2 H2 w2 x2 r2=>
  h F2 H2 x y v u _ _ x2.fh (r1.mono x2.hh) r2 w2 λd w F3 H3 p x3 r3=>by
   have x13:=x1.trans (x2.trans x3)
   split at p
   .rename_i k
    refine⟨k,r3,?_⟩
    cases k with
    |true=>exact iteT (hc F0 H0 F3 H3 Y G _ _ (e.on x13) p λz w4 F4 H4 p4 x4 r4=>h' F4 H4 y z u w4 P Q x4.fh (r2.mono (x3.hh.trans x4.hh)) r4 p4 λd w F5 H5 p5 x5 r5=>q d w F5 H5 p5 (x13.trans (x4.trans x5)) r5)
    |false=>exact iteB rfl (q _ _ F3 H3 p x13 rfl)
   .exact p.elim
section
variable {a:TA}{As:DA}
def dNil:DA:=λ_ P=>P []
def dCons (Ea:DE)(As:DA):DA:=λG P=>Ea G λd=>As G λds=>P (d::ds)
theorem sAB_nil:SimAB K tNil dNil:=λF0 H0 F H Y G P Q e w q=>q [] [] F H w (Ext.refl e.ext.fh) rfl
theorem sAF_nil:SimAF K tNil dNil:=λF0 H0 F H Y G P Q e w q=>q [] [] F H w (Ext.refl e.ext.fh) rfl
theorem sAB_cons (ha:SimB K ta Ea)(hr:SimAB K a As): SimAB K (tCons ta a) (dCons Ea As):=λF0 H0 F H Y G P Q e w q=>ha F0 H0 F H Y G _ _ e w λd v F1 H1 w1 x1 r1=>
 hr F0 H0 F1 H1 Y G _ _ (e.on x1) w1 λds vs F2 H2 w2 x2 r2=>q (d::ds) (v::vs) F2 H2 w2 (x1.trans x2) ⟨v,vs,rfl,r1.mono x2.hh,r2⟩
theorem sAF_cons (ha:SimF K ta Ea)(hr:SimAF K a As): SimAF K (tCons ta a) (dCons Ea As):=λF0 H0 F H Y G P Q e w q=>ha F0 H0 F H Y G _ _ e w λd v F1 H1 w1 x1 r1=>
 hr F0 H0 F1 H1 Y G _ _ (e.on x1) w1 λds vs F2 H2 w2 x2 r2=>q (d::ds) (v::vs) F2 H2 w2 (x1.trans x2) ⟨v,vs,rfl,r1.mono x2.ff,r2⟩
def dNilO:DAO:=λ_ P=>P []
def dConsO (Ea:DO)(As:DAO):DAO:=λG P=>Ea G λd=>As G λds=>P (d::ds)
theorem sAO_nil:SimAO K tNil dNilO:=λF0 H0 F H Y G P Q e w q=>q [] [] F H w (Ext.refl e.ext.fh) ⟨[],⟨rfl,rfl⟩,nodup_nil,λ_ h=>by cases h⟩
theorem sAO_cons (ha:SimO K ta Eo)(hr:SimAO K a Ao): SimAO K (tCons ta a) (dConsO Eo Ao):=λF0 H0 F H Y G P Q e w q=>ha F0 H0 F H Y G _ _ e w λd v F1 H1 w1 x1 r1=>
 hr F0 H0 F1 H1 Y G _ _ (e.on x1) w1 λds vs F2 H2 w2 x2 r2=>q (d::ds) (v::vs) F2 H2 w2 (x1.trans x2) (by
  obtain⟨A,a1,a2,a3⟩:=r1
  obtain⟨B,b1,b2,b3⟩:=r2
  refine⟨A++B,⟨v,vs,A,B,rfl,rfl,a1.frame x2.ff λa _ xs e=>x2.hh _ _ e,b1⟩,nodup_append.mpr ⟨a2,b2,λx hx y hy z=>?_⟩,λz hz=>?_⟩
  .subst z
   obtain⟨xs,hxs,_⟩:=a1.isl _ hx
   rw[(b3 _ hy).1]at hxs;cases hxs
  .rcases mem_append.mp hz with h |h
   .obtain ⟨xs,hxs,hxi⟩:=a1.isl _ h
    exact⟨(a3 z h).1,x2.no z _ (a3 z h).2 hxs hxi⟩
   .exact ⟨x1.hh.free (b3 z h).1,(b3 z h).2⟩)
theorem sz_le (h:n<=1000000): n<=sizeLine:=by rw[sizeLine_eq];lia
theorem sz_lt (h:n<1000000): n<sizeLine:=by rw[sizeLine_eq];lia
theorem Ext.new (s:Same F H)(hp:H p=none)(hs:Same H H')(h:H' p=some o): Ext F H (upd F p o) H':=by
 refine⟨λb u e=>?_,hs,λb u e=>?_,λb u e1 e2 e3=>?_⟩
 .rw [upd_ne λz=>by rw[z,s.free hp]at e;cases e];exact e
 .by_cases hb:b=p
  .subst hb;rw[upd_same]at e;rw[<- e];exact h
  .rw [upd_ne hb]at e;exact hs _ _ (s _ _ e)
 .rw [upd_ne λz=>by rw[z,hp]at e2;cases e2];exact e1
def dLst (As:DAO):DO:=λG P=>As G λts=>ts.length<=1000000/\P (.nl ts)
theorem sO_lst (h:SimAO K a Ao): SimO K (tLstS a) (dLst Ao):=λF0 H0 F H Y G P Q e w q=>h F0 H0 F H Y G _ _ e w λts vs F1 H1 w1 x1 r1=>by
 obtain⟨A,a1,a2,a3⟩:=r1
 have hl:=a1.length
 refine⟨sz_le (by lia),λp H' hp hs he=>?_⟩
 refine q _ _ F1 H' w1.2 (x1.trans ⟨Same.refl _,hs,x1.fh.trans hs,λ_ _ z _ _=>z⟩) ⟨p::A,⟨p,vs,A,rfl,rfl,he,a1.frame (Same.refl _) λb _ xs z=>hs _ _ z⟩,nodup_cons.mpr ⟨λz=>?_,a2⟩,λb hb=>?_⟩
 .obtain ⟨xs,z,_⟩:=a1.isl p z
  rw[hp]at z;cases z
 .rcases mem_cons.mp hb with rfl |hb
  .exact ⟨x1.hh.free hp,x1.fh.free hp⟩
  .exact a3 b hb
end
end
section
variable {K:Frag}{t ta tb tc:TE}{E Ea Eb Ec:DE}{a:TA}{As:DA}{Ao:DAO}
theorem Reps.atI (h:Reps K F ds vs)(e:L2.atI ds i=some d): ∃v,L2.atI vs i=some v/\Rep K F d v:=by
 unfold L2.atI at e ⊢
 rw[h.length]at e
 cases q:ixN vs.length i with
 |none=>rw[q]at e;cases e
 |some j=>
  rw[q]at e
  exact h.get e
def ixL:DR2:=λx y P=>match x,y with
 | .lst ds,.int i=>∃d,atI ds i=some d/\P d
 |_,_=>False
def ixT:DR2:=λx y P=>match x,y with
 | .tup ds,.int i=>∃d,atI ds i=some d/\P d
 |_,_=>False
def ixS:DR2:=λx y P=>match x,y with
 | .str z,.int i=>z.length<=1000000/\∃c,atI z.cps.toList i=some c/\P (.str ⟨#[c]⟩)
 |_,_=>False
def OpF (K:Frag)(R:R2)(r:DR2):Prop:=∀F H x y v u P Q,Same F H->Rep K F x v->Rep K F y u->r x y P->(∀d w,P d->Rep K F d w->Q w H)->R v u H Q
theorem OpF.b (h:OpF K R r): OpB K R r:=λH x y v u P Q rx ry w q=>h H H x y v u P Q (Same.refl _) rx ry w q
theorem sF_opF (h:OpF K R r)(ha:SimF K ta Ea)(hb:SimF K tb Eb): SimF K (tOp R ta tb) (dOp r Ea Eb):=λF0 H0 F H Y G P Q e w q=>
 ha F0 H0 F H Y G _ _ e w λx v F1 H1 w1 x1 r1=>hb F0 H0 F1 H1 Y G _ _ (e.on x1) w1 λy u F2 H2 w2 x2 r2=>
  h F2 H2 x y v u P _ x2.fh (r1.mono x2.ff) r2 w2 λd w p r'=>q d w F2 H2 p (x1.trans x2) r'
theorem oF_ixL:OpF K (rIxL K) ixL:=λF H x y v u P Q s rx ry w q=>by
 unfold ixL at w
 split at w
 .obtain ⟨d,e,w⟩:=w
  obtain⟨p,vs,rfl,h1,h2⟩:=rx
  obtain⟨v',e',r⟩:=h2.atI e
  exact⟨p,vs,_,v',rfl,ry,s.seq h1,e',q d v' w r⟩
 .exact w.elim
theorem oF_ixT:OpF K (rIxT K) ixT:=λF H x y v u P Q s rx ry w q=>by
 unfold ixT at w
 split at w
 .obtain ⟨d,e,w⟩:=w
  obtain⟨p,vs,rfl,h1,h2⟩:=rx
  obtain⟨v',e',r⟩:=h2.atI e
  exact⟨p,vs,_,v',rfl,ry,s.seqT h1,e',q d v' w r⟩
 .exact w.elim
def CbS (K:Frag)(R:List V->Hp->VK->Prop)(r:List D->(D->Prop)->Prop):Prop:=∀F H ds vs P Q,Same F H->Reps K H ds vs->r ds P->(∀d w F' H',P d->Ext F H F' H'->Rep K F' d w->Q w H')->R vs H Q
def dCB (r:List D->(D->Prop)->Prop)(As:DA):DE:=λG P=>As G λds=>r ds P
theorem sF_cb {R:List V->Hp->VK->Prop}{r:List D->(D->Prop)->Prop}(h:CbS K R r)(ha:SimAB K a As): SimF K (tCB R a) (dCB r As):=λF0 H0 F H Y G P Q e w q=>
 ha F0 H0 F H Y G _ _ e w λds vs F1 H1 w1 x1 r1=>h F1 H1 ds vs P _ x1.fh r1 w1 λd w F' H' p x' r'=>q d w F' H' p (x1.trans x') r'
theorem reps1 (h:Reps K F [d] vs): ∃v,vs=[v]/\Rep K F d v:=by
 obtain⟨v,r,rfl,h1,h2⟩:=h
 exact⟨v,by rw[show r=[] from h2],h1⟩
theorem reps2 (h:Reps K F [d,d'] vs): ∃v u,vs=[v,u]/\Rep K F d v/\Rep K F d' u:=by
 obtain⟨v,r,rfl,h1,h2⟩:=h
 obtain⟨u,rfl,h3⟩:=reps1 h2
 exact⟨v,u,rfl,h1,h3⟩
def lenD:List D->(D->Prop)->Prop:=λds P=>match ds with
 | [.lst xs]=>P (.int xs.length)
 | [.tup xs]=>P (.int xs.length)
 |_=>False
def lenS:List D->(D->Prop)->Prop:=λds P=>match ds with
 | [.str x]=>x.length<=1000000/\P (.int x.length)
 |_=>False
theorem cS_len:CbS K (λxs H Q=>∃p ys,xs=[.ref p]/\(SqL K H p ys∨SqT K H p ys)/\Q (.int ys.length) H) lenD:=λF H ds vs P Q s rs w q=>by
 unfold lenD at w
 split at w
 .obtain ⟨v,rfl,p,us,rfl,h1,h2⟩:=reps1 rs
  exact⟨p,us,rfl,.inl h1,by rw[<- h2.length];exact q _ _ F H w (Ext.refl s) rfl⟩
 .obtain ⟨v,rfl,p,us,rfl,h1,h2⟩:=reps1 rs
  exact⟨p,us,rfl,.inr h1,by rw[<- h2.length];exact q _ _ F H w (Ext.refl s) rfl⟩
 .exact w.elim
theorem cS_lenS:CbS K (λxs H Q=>∃z,xs=[.str z]/\z.length<=sizeLine/\Q (.int z.length) H) lenS:=λF H ds vs P Q s rs w q=>by
 unfold lenS at w
 split at w
 .obtain ⟨v,rfl,r⟩:=reps1 rs
  exact⟨_,by rw[show v=_ from r],sz_le w.1,q _ _ F H w.2 (Ext.refl s) rfl⟩
 .exact w.elim
theorem RepN.list (h0:H l=none)(f0:F' l=none)(h:H' l=some (.lst vs))(r:Reps K F' ds vs): RepN K H F' H' (.nl (ds.map .fz)) (.ref l):=
 ⟨[l],⟨l,vs,[],rfl,rfl,h,RepOs.fzs r⟩,by simp,λa ha=>by
  have e:a=l:=by simpa using ha
  rw[e];exact⟨h0,f0⟩⟩
theorem Ext.grow (s:Same F H)(h:Same H H'): Ext F H F H':=⟨Same.refl _,h,s.trans h,λ_ _ z _ _=>z⟩
def dListB (As:DA):DO:=λG P=>As G λds=>match ds with
 | [.lst xs]=>D.lfs xs=true/\P (.nl (xs.map .fz))
 | [.tup xs]=>D.lfs xs=true/\P (.nl (xs.map .fz))
 |_=>False
theorem sO_listB (ha:SimAB K a As): SimO K (tCB (rListS K) a) (dListB As):=λF0 H0 F H Y G P Q e w q=>ha F0 H0 F H Y G _ _ e w λds vs F1 H1 w1 x1 r1=>by
 have x2:=frzT_ext x1.fh
 split at w1
 .obtain ⟨v,rfl,p,us,rfl,h1,h2⟩:=reps1 r1
  exact⟨p,us,rfl,.inl h1,λl H' l0 sm l1=>q _ _ _ H' w1.2 (x1.trans (x2.trans (Ext.grow x2.fh sm))) (RepN.list (x1.hh.free l0) (x2.fh.free l0) l1 (Reps.lf x1.fh h2 w1.1))⟩
 .obtain ⟨v,rfl,p,us,rfl,h1,h2⟩:=reps1 r1
  exact⟨p,us,rfl,.inr h1,λl H' l0 sm l1=>q _ _ _ H' w1.2 (x1.trans (x2.trans (Ext.grow x2.fh sm))) (RepN.list (x1.hh.free l0) (x2.fh.free l0) l1 (Reps.lf x1.fh h2 w1.1))⟩
 .exact w1.elim
abbrev DPt:=Dst->(Option Int->Prop)->Prop
def SimP (K:Frag)(t:TO)(E:DPt):Prop:=∀F0 H0 F H Y G P Q,EnvR K F0 H0 F H Y G->E G P->(∀o F' H',P o->Ext F H F' H'->Q o H')->t Y H Q
def dNoPt:DPt:=λ_ P=>P none
def dPt (E:DE):DPt:=λG P=>E G λd=>match d with
 | .int i=>P (some i)
 |_=>False
theorem sP_no:SimP K tNoPart dNoPt:=λF0 H0 F H Y G P Q e w q=>q none F H w (Ext.refl e.ext.fh)
theorem sP_pt (h:SimB K t E): SimP K (tPart t) (dPt E):=λF0 H0 F H Y G P Q e w q=>h F0 H0 F H Y G _ _ e w λd v F1 H1 w1 x1 r1=>by
 split at w1
 .exact ⟨_,r1,q _ F1 H1 w1 x1⟩
 .exact w1.elim
def cutD (xs:List D)(lo hi:Option Int):List D:=(xs.drop (HT.sIx xs.length 0 lo)).take (HT.sIx xs.length xs.length hi-HT.sIx xs.length 0 lo)
theorem Reps.cut (h:Reps K F ds vs)(lo hi:Option Int): Reps K F (cutD ds lo hi) (cutV vs lo hi):=by
 unfold cutD cutV
 rw[h.length]
 exact (h.drop _).take _
def dSlL (Ea:DE)(L U:DPt):DO:=λG P=>Ea G λx=>L G λlo=>U G λhi=>match x with
 | .lst xs=>P (.nl ((cutD xs lo hi).map .fz))
 |_=>False
theorem sO_slL (ha:SimF K ta Ea)(hl:SimP K tl L)(hu:SimP K tu U): SimO K (tSl (rSlS K) ta tl tu) (dSlL Ea L U):=λF0 H0 F H Y G P Q e w q=>
 ha F0 H0 F H Y G _ _ e w λx v F1 H1 w1 x1 r1=>hl F0 H0 F1 H1 Y G _ _ (e.on x1) w1 λlo F2 H2 w2 x2=>hu F0 H0 F2 H2 Y G _ _ ((e.on x1).on x2) w2 λhi F3 H3 w3 x3=>by
  have x13:=x1.trans (x2.trans x3)
  split at w3
  .obtain ⟨p,vs,rfl,h1,h2⟩:=r1.mono (x2.ff.trans x3.ff)
   exact⟨p,vs,rfl,x3.fh.seq h1,λl H' l0 sm l1=>q _ _ F3 H' w3 (x13.trans (Ext.grow x3.fh sm)) (RepN.list (x13.hh.free l0) (x3.fh.free l0) l1 (h2.cut lo hi))⟩
  .exact w3.elim
abbrev DSp:=List D->(OV->Prop)->Prop
def spV (K:Frag)(n:Nat)(sp:DSp):Sp:=spL n λvs H Q=>∃F ds P,Same F H/\Reps K F ds vs/\sp ds P/\∀r v F' H',P r->Ext F H F' H'->RepN K H F' H' r v->Q v H'
def dCall (n:Nat)(sp:DSp)(As:DA):DO:=λG P=>As G λds=>ds.length=n/\sp ds P
theorem sO_call (ha:SimAF K a As): SimO K (tCall (spV K n sp) [] E0 a) (dCall n sp As):=λF0 H0 F H Y G P Q e w q=>ha F0 H0 F H Y G _ _ e w λds vs F1 H1 w1 x1 r1=>by
 rw[append_nil]
 exact⟨by rw[<- r1.length];exact w1.1,F1,ds,P,x1.fh,r1,w1.2,λr v F' H' p x' r'=>q r v F' H' p (x1.trans x') (r'.old x1.hh)⟩
end
section
variable {K:Frag}{te ti ta:TE}{E Ea Ei:DE}{Eo:DO}{t u:TS}{T U:DS}
def sNext:DS:=λDe G=>De.nx G
def sSeq (T U:DS):DS:=λDe G=>T {De with nx:=U De} G
theorem sS_next:SimS K tNext sNext:=λF0 H0 F H Y G De E e l w=>l.nx F H Y G e w
theorem sS_seq (h:SimS K t T)(g:SimS K u U): SimS K (tSeq t u) (sSeq T U):=λF0 H0 F H Y G De E e l w=>
 h F0 H0 F H Y G {De with nx:=U De} _ e ⟨λF1 H1 Y1 G1 e1 w1=>g F0 H0 F1 H1 Y1 G1 De E e1 l w1,l.bk,l.ct,l.rt⟩ w
def sRet (E:DO):DS:=λDe G=>E G De.rt
theorem sS_ret (h:SimO K te Eo): SimS K (tRet te) (sRet Eo):=λF0 H0 F H Y G De En e l w=>h F0 H0 F H Y G _ _ e w λr v F' H' p x n=>l.rt F' H' r v (e.ext.trans x) (n.old e.ext.hh) p
def sRetV (i:Nat):DS:=λDe G=>match G[i]? with
 |some (some (.own t))=>De.rt t
 |_=>False
def sIf (C:DT)(T U:DS):DS:=λDe G=>C G λb=>if b=true then T De G else U De G
theorem sS_if (h:SimT K c C)(ht:SimS K t T)(hu:SimS K u U): SimS K (tIfS c t u) (sIf C T U):=λF0 H0 F H Y G De En e l w=>h F0 H0 F H Y G _ _ e w λb F' H' p x=>by
 cases b with
 |true=>exact iteT (ht F0 H0 F' H' Y G De En (e.on x) l p)
 |false=>exact iteB rfl (hu F0 H0 F' H' Y G De En (e.on x) l p)
def sSet (i:Nat)(E:DO):DS:=λDe G=>E G λr=>De.nx (G.set i (some (.own r)))
theorem sS_set (h:SimO K te Eo): SimS K (tAsg te (gName i)) (sSet i Eo):=λF0 H0 F H Y G De En e l w=>h F0 H0 F H Y G _ _ e w λr v F' H' p x n=>l.nx F' H' _ _ (e.put x i n) p
def gN (i:Nat):D->Dst->(Dst->Prop)->Prop:=λd G P=>P (G.set i (some (.own (.fz d))))
theorem sG_name:SimG K (gName i) (gN i):=λF0 H0 F H Y G A d v P Q e r w q=>q _ _ _ w (e.putFz i r) λj a ha=>by
 split at ha
 .cases ha
 .exact ha
theorem ER.change {A:Nat->List Addr}(e:ER K F0 H0 F H Y G A)(i:Nat)(hv:Y[i]?=some (some v))(hr:RepO K F H' t' v B)(hB:B.Nodup)
  (hBn:∀b∈B,F b=none/\H0 b=none) (dj:∀j,j≠i->∀b∈B,b∉A j) (keep:∀b o,b∉A i->H b=some o->H' b=some o): EnvR K F0 H0 F H' Y (G.set i (some (.own t'))):=by
 have hi:i<G.length:=by rw[<- e.len];exact (List.getElem?_eq_some_iff.mp hv).1
 refine⟨λj=>if j=i then B else A j,by simp[e.len],⟨e.ext.ff,λb o h=>?_,λb o h=>?_,e.ext.no⟩,λj t hj=>?_,λj d hj=>?_,λj=>?_,λj k a hjk h1 h2=>?_,λj a ha=>?_⟩
 .exact keep b o (λz=>by rw[(e.new i b z).2.1]at h;cases h) (e.ext.hh _ _ h)
 .exact keep b o (λz=>by rw[(e.new i b z).1]at h;cases h) (e.ext.fh _ _ h)
 .by_cases z:j=i
  .subst z
   rw[if_pos rfl]
   rw[getElem?_set_self hi]at hj
   cases hj
   exact⟨v,hv,hr⟩
  .rw [if_neg z]
   rw[getElem?_set_ne (Ne.symm z)]at hj
   obtain⟨u,h1,h2⟩:=e.own j t hj
   exact⟨u,h1,h2.frame (Same.refl _) λa ha xs h=>keep a _ (e.dis j i a z ha) h⟩
 .by_cases z:j=i
  .subst z
   rw[getElem?_set_self hi]at hj
   cases hj
  .rw [getElem?_set_ne (Ne.symm z)]at hj
   exact e.bw j d hj
 .split
  .exact hB
  .exact e.nod j
 .split at h1
  .split at h2
   .lia
   .rename_i z1 z2
    exact dj k z2 a h1 h2
  .split at h2
   .rename_i z1 z2
    exact dj j z1 a h2 h1
   .exact e.dis j k a hjk h1 h2
 .split at ha
  .exact ⟨(hBn a ha).1,(hBn a ha).2,hr.isl a ha⟩
  .rename_i z
   obtain⟨h1,h2,xs,h3,himm⟩:=e.new j a ha
   exact⟨h1,h2,xs,keep a _ (e.dis j i a z ha) h3,himm⟩
def sApp (i:Nat)(E:DO):DS:=λDe G=>match G[i]? with
 |some (some (.own (.nl ts)))=>ts.length<1000000/\E G λr=>De.nx (G.set i (some (.own (.nl (ts++[r])))))
 |_=>False
theorem upd_off (h:b≠a)(e:H b=some o'): upd H a o b=some o':=by rw[upd_ne h];exact e
theorem sS_app (h:SimO K te Eo): SimS K (tDrop (tBM K "list" rAppend (tVar i) (tCons te tNil))) (sApp i Eo):=λF0 H0 F H Y G De En e l w=>by
 obtain⟨A,e⟩:=e
 unfold sApp at w
 split at w
 .rename_i ts hs
  obtain⟨pl,w⟩:=w
  obtain⟨v,hv,a,vs,B,rfl,eA,ha,hB⟩:=e.own i _ hs
  refine⟨_,hv,.inl ⟨rfl,_,SqL.of ha⟩,?_⟩
  refine h F0 H0 F H Y G _ _ ⟨A,e⟩ w λr u F1 H1 p x1 n=>?_
  obtain⟨C,c1,c2,c3⟩:=n
  have e1:=e.on x1
  have hl:=hB.length
  refine⟨a,vs,u,rfl,rfl,x1.hh _ _ ha,sz_lt (by lia),?_⟩
  have hB1:RepOs K F1 H1 ts vs B:=hB.frame x1.ff λb _ xs z=>x1.hh _ _ z
  have hnd:=e.nod i
  rw[eA]at hnd
  obtain⟨n1,n2⟩:=nodup_cons.mp hnd
  have hCA:∀j b,b∈C->b∉A j:=λj b hb z=>by
   obtain⟨_,_,xs,q,_⟩:=e.new j b z
   rw[(c3 b hb).1]at q;cases q
  have haC:a∉C:=λz=>hCA i a z (by rw[eA];exact mem_cons_self)
  refine l.nx F1 _ Y _ (e1.change i hv (t':=.nl (ts++[r])) (B:=a::(B++C)) ⟨a,vs++[u],B++C,rfl,rfl,upd_same,?_⟩ ?_ ?_ ?_ ?_) p
  .exact RepOs.append (hB1.frame (Same.refl _) λb hb xs z=>upd_off (λq=>n1 (by rw[<- q];exact hb)) z) (RepOs.one (c1.frame (Same.refl _) λb hb xs z=>upd_off (λq=>haC (by rw[<- q];exact hb)) z))
  .refine nodup_cons.mpr ⟨λz=>?_,nodup_append.mpr ⟨n2,c2,λx hx y hy z=>?_⟩⟩
   .rcases mem_append.mp z with z |z
    .exact n1 z
    .exact haC z
   .subst z
    exact hCA i x hy (by rw[eA];exact mem_cons_of_mem _ hx)
  .intro b hb
   have hb':b∈A i∨b∈C:=by
    rw[eA]
    rcases mem_cons.mp hb with z |z
    .exact .inl (by rw[z];exact mem_cons_self)
    .rcases mem_append.mp z with z |z
     .exact .inl (mem_cons_of_mem _ z)
     .exact .inr z
   rcases hb' with z |z
   .exact ⟨(e1.new i b z).1,(e1.new i b z).2.1⟩
   .exact ⟨(c3 b z).2,e.ext.hh.free (c3 b z).1⟩
  .intro j hj b hb z
   rcases mem_cons.mp hb with q |q
   .subst q;exact e.dis j i b hj z (by rw[eA];exact mem_cons_self)
   .rcases mem_append.mp q with q |q
    .exact e.dis j i b hj z (by rw[eA];exact mem_cons_of_mem _ q)
    .exact hCA j b q z
  .intro b o hb q
   exact upd_off (λz=>hb (by rw[eA,z];exact mem_cons_self)) q
 .exact w.elim
def sPut (i:Nat)(Ei:DE)(E:DO):DS:=λDe G=>E G λr=>match G[i]? with
 |some (some (.own (.nl ts)))=>Ei G λk=>match k with
  | .int k=>∃j,ixN ts.length k=some j/\De.nx (G.set i (some (.own (.nl (ts.set j r)))))
  |_=>False
 |_=>False
theorem sS_put (h:SimO K te Eo)(hi:SimB K ti Ei): SimS K (tAsg te (gSub (tVar i) ti rSetL)) (sPut i Ei Eo):=λF0 H0 F H Y G De En e l w=>by
 refine h F0 H0 F H Y G _ _ e w λr u F1 H1 p x1 n=>?_
 obtain⟨A,e⟩:=e
 split at p
 .rename_i ts hs
  have e1:=e.on x1
  obtain⟨v,hv,a,vs,B,rfl,eA,ha,hB⟩:=e1.own i _ hs
  refine⟨_,hv,?_⟩
  refine hi F0 H0 F1 H1 Y G _ _ ⟨A,e1⟩ p λk kv F2 H2 p2 x2 r2=>?_
  split at p2
  .rename_i k
   obtain⟨j,hj,p2⟩:=p2
   have e2:=e1.on x2
   have ha2:=x2.hh _ _ ha
   have hB2:RepOs K F2 H2 ts vs B:=hB.frame x2.ff λb _ xs z=>x2.hh _ _ z
   obtain⟨C,c1,c2,c3⟩:=n
   have c1':RepO K F2 H2 r u C:=c1.frame x2.ff λb _ xs z=>x2.hh _ _ z
   have hl:=hB.length
   refine⟨a,vs,k,j,rfl,r2,ha2,by rw[<- hl];exact hj,?_⟩
   have hjl:j<ts.length:=by
    unfold ixN at hj
    split at hj
    .split at hj
     .cases hj;lia
     .cases hj
    .split at hj
     .cases hj;lia
     .cases hj
   obtain⟨v0,A1,B0,A2,f1,rfl,f3,f4⟩:=hB2.focus (getElem?_eq_getElem hjl)
   have hnd:=e.nod i
   rw[eA]at hnd
   obtain⟨n1,n2⟩:=nodup_cons.mp hnd
   have hCA:∀j b,b∈C->b∉A j:=λj b hb z=>by
    obtain⟨_,_,xs,q,_⟩:=e.new j b z
    rw[(c3 b hb).1]at q;cases q
   have haC:a∉C:=λz=>hCA i a z (by rw[eA];exact mem_cons_self)
   have sub:∀b,b∈A1++A2->b∈A1++(B0++A2):=λb hb=>by
    rcases mem_append.mp hb with z |z<;>simp[z]
   have ina:∀b,b∈a::(A1++(C++A2))->b∈A i∨b∈C:=λb hb=>by
    rw[eA]
    rcases mem_cons.mp hb with z |z
    .exact .inl (by rw[z];exact mem_cons_self)
    .rcases mem_append.mp z with z |z
     .exact .inl (by simp[z])
     .rcases mem_append.mp z with z |z
      .exact .inr z
      .exact .inl (by simp[z])
   refine l.nx F2 _ Y _ (e2.change i hv (t':=.nl (ts.set j r)) (B:=a::(A1++(C++A2))) ⟨a,vs.set j u,_,rfl,rfl,upd_same,f4 F2 _ r u C (Same.refl _) (λb hb xs z=>?_) (c1'.frame (Same.refl _) λb hb xs z=>upd_off (λq=>haC (by rw[<- q];exact hb)) z)⟩ ?_ ?_ ?_ ?_) p2
   .exact upd_off (λq=>n1 (by rw[<- q];exact sub b hb)) z
   .obtain ⟨m1,m2,m3⟩:=nodup_append.mp n2
    obtain⟨k1,k2,k3⟩:=nodup_append.mp m2
    refine nodup_cons.mpr ⟨λz=>?_,nodup_append.mpr ⟨m1,nodup_append.mpr ⟨c2,k2,λx hx y hy z=>?_⟩,λx hx y hy z=>?_⟩⟩
    .rcases mem_append.mp z with z |z
     .exact n1 (by simp[z])
     .rcases mem_append.mp z with z |z
      .exact haC z
      .exact n1 (by simp[z])
    .subst z
     exact hCA i x hx (by rw[eA];simp[hy])
    .rcases mem_append.mp hy with q |q
     .subst z
      exact hCA i x q (by rw[eA];simp[hx])
     .exact m3 x hx y (by simp[q]) z
   .intro b hb
    rcases ina b hb with z |z
    .exact ⟨(e2.new i b z).1,(e2.new i b z).2.1⟩
    .obtain ⟨xs,q,himm⟩:=c1.isl b z
     exact⟨x2.no b _ (c3 b z).2 q himm,e.ext.hh.free (c3 b z).1⟩
   .intro j' hj' b hb z
    rcases ina b hb with q |q
    .exact e.dis j' i b hj' z q
    .exact hCA j' b q z
   .intro b o hb q
    exact upd_off (λz=>hb (by rw[eA,z];exact mem_cons_self)) q
  .exact p2.elim
 .exact p.elim
end
section
variable {K:Frag}{te ti ta tl:TE}{E Ea Ei El:DE}{Eo:DO}{t u:TS}{T U:DS}{a:TA}{As:DA}
theorem ER.rebase {A:Nat->List Addr}(e:ER K F0 H0 F H Y G A): ER K F H0 F H Y G A:=⟨e.len,⟨Same.refl _,e.ext.hh,e.ext.fh,λ_ _ z _ _=>z⟩,e.own,e.bw,e.nod,e.dis,e.new⟩
theorem EnvR.rebase (e:EnvR K F0 H0 F H Y G): EnvR K F H0 F H Y G:=let⟨A,e⟩:=e;⟨A,e.rebase⟩
theorem Ext.unbase (x:Ext F0 H0 F1 H1)(y:Ext F1 H0 F H): Ext F0 H0 F H:=⟨x.ff.trans y.ff,y.hh,y.fh,λa o z1 z2 z3=>y.no a o (x.no a o z1 z2 z3) z2 z3⟩
theorem EnvR.unbase (x:Ext F0 H0 F1 H1)(e:EnvR K F1 H0 F H Y G): EnvR K F0 H0 F H Y G:=let⟨A,e⟩:=e;⟨A,e.len,x.unbase e.ext,e.own,e.bw,e.nod,e.dis,e.new⟩
def ItR (K:Frag)(F:Hp)(J:It)(ds:List D):Prop:=∀F1 H1,Same F F1->Same F1 H1->(∀i,i<ds.length->J.go i H1)/\J.stop ds.length H1/\∀i x H2,i<ds.length->J.yld i H1 x H2->∃d F2,ds[i]?=some d/\Ext F1 H1 F2 H2/\Rep K F2 d x
def SimI (K:Frag)(wi:TI)(I:DA):Prop:=∀F0 H0 F H Y G P R,EnvR K F0 H0 F H Y G->I G P->(∀ds J F' H',P ds->Ext F H F' H'->ItR K F' J ds->R J H')->wi Y H R
def ForW (δ:D->Dst->(Dst->Prop)->Prop)(T:DS)(De:DEnds)(ds:List D)(G:Dst):Prop:=∃W:Nat->Dst->Prop,W 0 G/\
 (∀i d G,ds[i]?=some d->W i G->δ d G λG'=>T {nx:=W (i+1),ct:=W (i+1),bk:=De.nx,rt:=De.rt} G')/\∀G,W ds.length G->De.nx G
def sFor (I:DA)(δ:D->Dst->(Dst->Prop)->Prop)(T:DS):DS:=λDe G=>I G λds=>ForW δ T De ds G
theorem sS_for {δ:D->Dst->(Dst->Prop)->Prop}(hi:SimI K wi I)(hg:SimG K g δ)(ht:SimS K t T): SimS K (tFor wi g t) (sFor I δ T):=λF0 H0 F H Y G De En e l w=>
 hi F0 H0 F H Y G _ _ e w λds J F1 H1 p x1 hJ=>by
  have b1:=(e.on x1).ext
  obtain⟨W,w0,ws,wd⟩:=p
  refine⟨λi m Y H=>m=ds.length-i/\i<=ds.length/\∃F G,EnvR K F1 H0 F H Y G/\W i G,⟨ds.length,rfl,zero_le _,F1,G,(e.on x1).rebase,w0⟩,?_⟩
  rintro i m Y2 H2 ⟨rfl,hil,F2,G2,⟨A2,e2⟩,w2⟩
  obtain⟨j1,j2,j3⟩:=hJ F2 H2 e2.ext.ff e2.ext.fh
  by_cases hlt:i<ds.length
  .refine .inr ⟨j1 i hlt,λY' H'=>∃F G,EnvR K F1 H0 F H' Y' G/\W (i+1) G,λY' H' ⟨F3,G3,e3,w3⟩=>⟨ds.length-(i+1),by omega,rfl,hlt,F3,G3,e3,w3⟩,λx H3 y=>?_⟩
   obtain⟨d,F3,hd,x3,r3⟩:=j3 i x H3 hlt y
   refine hg F1 H0 F3 H3 Y2 G2 A2 d x _ _ (e2.on x3) r3 (ws i d G2 hd w2) λY4 G4 A4 w4 e4 _=>?_
   exact ht F1 H0 F3 H3 Y4 G4 {nx:=W (i+1),ct:=W (i+1),bk:=De.nx,rt:=De.rt} _ ⟨A4,e4⟩ ⟨λF5 H5 Y5 G5 e5 w5=>⟨F5,G5,e5,w5⟩,λF5 H5 Y5 G5 e5 w5=>l.nx F5 H5 Y5 G5 (e5.unbase b1) w5,λF5 H5 Y5 G5 e5 w5=>⟨F5,G5,e5,w5⟩,λF5 H5 r v x5 n5 w5=>l.rt F5 H5 r v (b1.unbase x5) n5 w5⟩ w4
  .have hi':i=ds.length:=by lia
   subst hi'
   exact .inl ⟨j2,l.nx F2 H2 Y2 G2 (EnvR.unbase b1 ⟨A2,e2⟩) (wd _ w2)⟩
def forR (δ:D->Dst->(Dst->Prop)->Prop)(T:DS)(De:DEnds):List D->Dst->Prop
 | [],G=>De.nx G
 |d::ds,G=>δ d G λG'=>T {nx:=forR δ T De ds,ct:=forR δ T De ds,bk:=De.nx,rt:=De.rt} G'
theorem forR.w {δ:D->Dst->(Dst->Prop)->Prop}{T:DS}{De:DEnds}{ds:List D}{G:Dst}(h:forR δ T De ds G):ForW δ T De ds G:=by
 refine⟨λi G=>forR δ T De (ds.drop i) G,h,λi d G e w=>?_,λG w=>?_⟩
 .obtain ⟨hlt,e⟩:=List.getElem?_eq_some_iff.mp e
  have w':forR δ T De (ds.drop i) G:=w
  rw[List.drop_eq_getElem_cons hlt,e]at w'
  exact w'
 .have w':forR δ T De (ds.drop ds.length) G:=w
  rw[List.drop_length]at w';exact w'
def dItL (El:DE):DA:=λG P=>El G λd=>match d with
 | .lst ds=>P ds
 |_=>False
theorem sI_list (h:SimF K tl El): SimI K (iList K tl) (dItL El):=λF0 H0 F H Y G P R e w q=>h F0 H0 F H Y G _ _ e w λd v F' H' p x r=>by
 split at p
 .obtain ⟨a,vs,rfl,h1,h2⟩:=r
  refine⟨a,rfl,⟨vs,x.fh.seq h1⟩,q _ _ F' H' p x λF1 H1 s1 s2=>?_⟩
  have hl:=h2.length
  have hq:=(s1.trans s2).seq h1
  refine⟨λi hi=>⟨vs,vs[i],hq,getElem?_eq_getElem (by lia)⟩,⟨vs,hq,by lia⟩,λi x H2 hi y=>?_⟩
  obtain⟨rfl,y⟩:=y
  obtain⟨d,hd,rd⟩:=h2.get' (y vs hq)
  exact⟨d,F1,hd,Ext.refl s2,rd.mono s1⟩
 .exact p.elim
def rng (lo c:Int)(n:Nat):List D:=(List.range n).map λ(i:Nat)=>D.int (lo+i*c)
theorem rng_len {lo c:Int}{n:Nat}:(rng lo c n).length=n:=by simp[rng]
theorem rng_get {lo c:Int}{n i:Nat}(h:i<n):(rng lo c n)[i]?=some (.int (lo+i*c)):=by simp[rng,h]
theorem rng_inv {lo c:Int}{n i:Nat}{d:D}(h:(rng lo c n)[i]?=some d):i<n/\d = .int (lo+i*c):=by
 have hi:i<n:=by
  have:=(List.getElem?_eq_some_iff.mp h).1
  rwa[rng_len]at this
 rw[rng_get hi]at h
 exact⟨hi,(Option.some.inj h).symm⟩
theorem itR_itr {F:Hp}{lo:Int}{n:Nat}:ItR K F (Itr lo n) (rng lo 1 n):=λF1 H1 s1 s2=>by
 rw[rng_len]
 refine⟨λi hi=>hi,Nat.le_refl _,λi x H2 hi y=>?_⟩
 obtain⟨rfl,rfl⟩:=y
 exact⟨_,F1,rng_get hi,Ext.refl s2,by rw[Int.mul_one];rfl⟩
def dRng1 (As:DA):DA:=λG P=>As G λds=>match ds with
 | [.int j]=>(-(2^62)<=j/\j<2^62)/\P (rng 0 1 j.toNat)
 |_=>False
def dRng2 (As:DA):DA:=λG P=>As G λds=>match ds with
 | [.int i,.int j]=>(-(2^62)<=i/\i<2^62/\-(2^62)<=j/\j<2^62)/\P (rng i 1 (j-i).toNat)
 |_=>False
theorem sI_rng1 (h:SimAB K a As): SimI K (iRng1 a) (dRng1 As):=λF0 H0 F H Y G P R e w q=>h F0 H0 F H Y G _ _ e w λds vs F' H' p x r=>by
 split at p
 .obtain ⟨v,rfl,r1⟩:=reps1 r
  exact⟨_,by rw[show v=_ from r1],p.1.1,p.1.2,q _ _ F' H' p.2 x itR_itr⟩
 .exact p.elim
theorem sI_rng2 (h:SimAB K a As):SimI K (iRng2 a) (dRng2 As):=λF0 H0 F H Y G P R e w q=>h F0 H0 F H Y G _ _ e w λds vs F' H' p x r=>by
 split at p
 .obtain ⟨v,u,rfl,r1,r2⟩:=reps2 r
  exact⟨_,_,by rw[show v=_ from r1,show u=_ from r2],p.1,q _ _ F' H' p.2 x itR_itr⟩
 .exact p.elim
def blkD (ix:List (Option Nat))(G:Dst):Dst:=ix.map λo=>match o with
 |none=>none
 |some i=>match G[i]? with
  |some (some (.own (.fz d)))=>some (.own (.fz d))
  |some (some (.own (.fx _ d)))=>some (.own (.fz d))
  |some (some (.own t))=>some (.bw t.val)
  |some (some (.bw d))=>some (.bw d)
  |_=>none
def CmpW (δ:D->Dst->(Dst->Prop)->Prop)(Eo:DO)(ds:List D)(G:Dst)(P:OV->Prop):Prop:=∃W:Nat->Dst->List OV->Prop,W 0 G []/\
 (∀i d G ts,ds[i]?=some d->W i G ts->ts.length<1000000/\δ d G λG'=>Eo G' λr=>W (i+1) G' (ts++[r]))/\∀G ts,W ds.length G ts->P (.nl ts)
theorem ER.blk {A:Nat->List Addr}(e:ER K F0 H0 F H Y G A)(ix:List (Option Nat))(s:Same H H'): ER K F H F H' (blkσ ix Y) (blkD ix G) (λ_=>[]):=by
 have get:∀(j:Nat) (s:Sl),(blkD ix G)[j]?=some (some s)->∃(i:Nat) (v:V),(blkσ ix Y)[j]?=some (some v)/\Y[i]?=some (some v)/\((∃d,s = .own (.fz d)/\Rep K F d v)∨∃d,s = .bw d/\Rep K H d v):=by
  intro j s hj
  unfold blkD at hj
  rw[getElem?_map]at hj
  cases q:ix[j]? with
  |none=>rw[q]at hj;cases hj
  |some o=>
   rw[q]at hj
   cases o with
   |none=>cases hj
   |some i=>
    have fin:∀v,Y[i]?=some (some v)->(blkσ ix Y)[j]?=some (some v):=λv hv=>by
     unfold blkσ
     rw[getElem?_map,q]
     simp[hv]
    have hj':=Option.some.inj hj
    dsimp only at hj'
    split at hj'
    .rename_i d hd
     cases hj'
     obtain⟨v,h1,h2⟩:=e.own i _ hd
     exact⟨i,v,fin v h1,h1,.inl ⟨d,rfl,h2.2⟩⟩
    .rename_i u d hd
     cases hj'
     obtain⟨v,h1,h2⟩:=e.own i _ hd
     exact⟨i,v,fin v h1,h1,.inl ⟨d,rfl,h2.2.2⟩⟩
    .rename_i t _ _ hd
     cases hj'
     obtain⟨v,h1,h2⟩:=e.own i _ hd
     exact⟨i,v,fin v h1,h1,.inr ⟨_,rfl,h2.rep e.ext.fh λa _ xs z=>z⟩⟩
    .rename_i d hd
     cases hj'
     obtain⟨v,h1,h2⟩:=e.bw i _ hd
     exact⟨i,v,fin v h1,h1,.inr ⟨_,rfl,h2.mono e.ext.hh⟩⟩
    .cases hj'
 refine⟨by simp[blkσ,blkD],Ext.grow e.ext.fh s,λj t hj=>?_,λj d hj=>?_,λ_=>nodup_nil,(λ_ _ _ _ h=>by cases h),(λ_ _ h=>by cases h)⟩
 .obtain ⟨i,v,h1,h2,h3⟩:=get j _ hj
  rcases h3 with⟨d,h3,h4⟩ | ⟨d,h3,_⟩
  .cases h3;exact⟨v,h1,rfl,h4⟩
  .cases h3
 .obtain ⟨i,v,h1,h2,h3⟩:=get j _ hj
  rcases h3 with⟨d',h3,h4⟩ | ⟨d',h3,h4⟩
  .cases h3
  .cases h3;exact⟨v,h1,h4⟩
def startV (N:List Str)(ds:List D):Dst:=ds.map (λd=>some (.own (.fz d)))++List.replicate (N.length-ds.length) none
theorem startV_er (s:Same F H)(h:Reps K F ds vs): ER K F H F H (start N vs) (startV N ds) (λ_=>[]):=by
 have hl:=h.length
 refine⟨by simp[start,startV,hl],Ext.refl s,λi t hi=>?_,λi d hi=>?_,λ_=>nodup_nil,(λ_ _ _ _ h=>by cases h),(λ_ _ h=>by cases h)⟩
 .unfold startV at hi
  by_cases z:i<ds.length
  .rw [getElem?_append_left (by simpa using z),getElem?_map,getElem?_eq_getElem z]at hi
   simp at hi
   subst hi
   obtain⟨v,h1,h2⟩:=h.get (getElem?_eq_getElem z)
   refine⟨v,?_,rfl,h2⟩
   unfold start
   rw[getElem?_append_left (by simp;lia),getElem?_map,h1]
   rfl
  .rw [getElem?_append_right (by simpa using z)]at hi
   have:=mem_of_getElem? hi
   rw[mem_replicate]at this
   cases this.2
 .unfold startV at hi
  by_cases z:i<ds.length
  .rw [getElem?_append_left (by simpa using z),getElem?_map]at hi
   simp at hi
  .rw [getElem?_append_right (by simpa using z)]at hi
   have:=mem_of_getElem? hi
   rw[mem_replicate]at this
   cases this.2
end
theorem CalV.of {P:Program}{w:World}{K:Frag}{mg:Str->Option Value}{base:Heap}{x:Str}{st:Stmt}{f:Addr}{fd:FuncData}{N ps:List Str}{k n:Nat}{sp:DSp}(Df:DefAt K mg x st f fd)(S:FnScope N ps (defScope st))
  (hb:∀(kV doc pm:Value) (an:Option Addr) (cdv ct:Value) (us:List Value),us.length=ps.length->bindArgs (fnOf x x (defArgs st) (defBody st) (defScope st) .none kV doc pm an cdv ct) ⟨us,[]⟩=pure (ps.zip us)) (hn:n=ps.length)
  (hbody:∀(cdv:Value) (A:Around) (outer:List Env) (s:Shared) (H:Hp) (E:XK),Room k (A.deeper (envOfC x (defScope st) s.heap.objs.size f cdv))->
   ∃t T,PSs (cxOf CX0 P w K mg base N x (defScope st) f cdv A outer s H E).nox (defBody st) t/\SimS K t T/\∀ds Pr,sp ds Pr->T {nx:=λ_=>Pr (.fz .non),rt:=Pr} (startV N ds)):Cal P w K mg base x (k+1) ps (spV K n sp):=
 Cal.of Df S hb (λvs H Q E h=>by rw[<- hn];exact h.1) λcdv A outer s H vs Q E hr h=>by
  obtain⟨_,F,ds,Pr,hs,hr',hsp,hq⟩:=h
  obtain⟨t,T,h1,h2,h3⟩:=hbody cdv A outer s H E hr
  refine⟨t,h1,h2 F H F H (start N vs) (startV N ds) {nx:=λ_=>Pr (.fz .non),rt:=Pr} _ ⟨_,startV_er hs hr'⟩ ⟨λF' H' Y G e p=>?_,λ_ _ _ _ _ z=>z.elim,λ_ _ _ _ _ z=>z.elim,λF' H' r v x n p=>hq r v F' H' p x n⟩ (h3 ds Pr hsp)⟩
  exact hq _ _ F' H' p e.ext (.fz rfl)
theorem law_ok {P:Program}{w:World}{K:Frag}{mg:Str->Option Value}{base:Heap}{st:Stmt}{f:Addr}{fd:FuncData}{N:List Str}{k:Nat}(Df:DefAt K mg "law" st f fd)(S:FnScope N ["_law_script"] (defScope st))
  (hbody:∀(cdv:Value) (A:Around) (outer:List Env) (s:Shared) (H:Hp) (E:XK),Room k (A.deeper (envOfC "law" (defScope st) s.heap.objs.size f cdv))->
   ∃t T,PSs (cxOf CX0 P w K mg base N "law" (defScope st) f cdv A outer s H E).nox (defBody st) t/\SimS K t T/\∀ns:List Int,ns.length<=63->T {nx:=λ_=>False,rt:=λr=>r = .fz (.bl true)} (startV N [.lst (ns.map .int)])):FnOk P w K mg base CX0 (k+1) f fd ["_law_script"] (spLaw K):=
 Df.fn.ok S (λvs H Q E h=>h.1) λcdv A outer s H vs Q E hr h=>by
  obtain⟨_,a,ns,rfl,hS,hlen,q⟩:=h
  obtain⟨t,T,h1,h2,h3⟩:=hbody cdv A outer s H E hr
  have hr':Reps K H [.lst (ns.map D.int)] [.ref a]:=⟨_,_,rfl,⟨a,_,rfl,hS,reps_ints.mpr rfl⟩,rfl⟩
  refine⟨t,h1,h2 H H H H (start N [.ref a]) (startV N [.lst (ns.map .int)]) {nx:=λ_=>False,rt:=λr=>r = .fz (.bl true)} _ ⟨_,startV_er (Same.refl H) hr'⟩ ⟨λF' H' Y G e p=>p.elim,λ_ _ _ _ _ z=>z.elim,λ_ _ _ _ _ z=>z.elim,λF' H' r v x n p=>?_⟩ (h3 ns hlen)⟩
  subst p
  obtain⟨A,n1,_⟩:=n
  have:v = .bl true:=n1.2
  subst this
  exact q H'
section
variable {X:Cx}{K:Frag}
def D.tyN:D->String
 | .int _ => "int"
 | .bl _ => "bool"
 | .non => "NoneType"
 | .str _ => "str"
 | .ty _ => "type"
 | .fn _ => "function"
 | .tup _ => "tuple"
 | .lst _ => "list"
 | .dic => "dict"
 | .exc _ => "exception"
 | .obj _ _ _ => "object"
 | .clo _ _ _ _ => "function"
def kitB (d:D)(n:String):Bool:=match d with
 | .int _=>n == "int"
 | .bl _=>n == "bool" ||n == "int"
 | .str _=>n == "str"
 | .tup _=>n == "tuple"
 | .lst _=>n == "list"
 |_=>false
def kitNs:List String:=["int","bool","str","tuple","list"]
structure KitV (K:Frag):Prop where
 all:∀d:D,((∀m,d≠.ty m)/\(∀x,d≠.fn x)/\(∀x,d≠.exc x)/\(∀c ns ds,d≠.obj c ns ds)/\∀a b c e,d≠.clo a b c e)->∀n∈kitNs,kitOne K (.type d.tyN) (.type n)=some (kitB d n)
theorem atI_c0 {α:Type}{a:α}{xs:List α}:atI (a::xs) 0=some a:=atI_nat rfl
theorem atI_c1 {α:Type}{a b:α}{xs:List α}:atI (a::b::xs) 1=some b:=atI_nat rfl
theorem atI_ints {xs:List Int}{i:Int}(h0:0<=i)(h:i<xs.length):atI (xs.map D.int) i=some (.int (xs.getD i.toNat 0)):=by
 have hi:i.toNat<xs.length:=by lia
 have e:=atI_nat (xs:=xs.map D.int) (j:=i.toNat) (v:=.int (xs.getD i.toNat 0)) (by simp[hi])
 rwa[show ((i.toNat:Nat):Int)=i by lia]at e
theorem mget {α β:Type}{xs:List α}{f:α->β}{i:Nat}{d:β}(h:(xs.map f)[i]?=some d):∃x,xs[i]?=some x/\d=f x:=by
 rw[getElem?_map]at h
 cases q:xs[i]? with
 |none=>rw[q]at h;cases h
 |some x=>rw[q]at h;exact⟨x,rfl,(Option.some.inj h).symm⟩
theorem val_fzI {xs:List Int}:List.map OV.val (xs.map λx=>OV.fz (D.int x))=xs.map D.int:=by
 rw[map_map];rfl
theorem CmpW.map {α:Type}{Eo:DO}{o:Option Sl}{rest:Dst}{P:OV->Prop}(xs:List α)(g:α->D)(f:α->OV)(hn:xs.length<=1000000)
  (h:∀x∈xs,∀Q:OV->Prop,Q (f x)->Eo (some (.own (.fz (g x)))::rest) Q) (k:P (.nl (xs.map f))):CmpW (gN 0) Eo (xs.map g) (o::rest) P:=by
 refine⟨λi G ts=>∃o,G=o::rest/\ts=(xs.take i).map f,⟨o,rfl,rfl⟩,?_,?_⟩
 .rintro i d G ts hd ⟨o,rfl,rfl⟩
  obtain⟨x,hx,rfl⟩:=mget hd
  obtain⟨hi,e⟩:=List.getElem?_eq_some_iff.mp hx
  refine⟨by rw[length_map,length_take];lia,h x (mem_of_getElem? hx) _ ⟨_,rfl,?_⟩⟩
  rw[List.take_succ_eq_append_getElem hi,e,map_append]
  rfl
 .rintro G ts ⟨o,rfl,rfl⟩
  rw[length_map,List.take_length]
  exact k
theorem sSeq_k (h:∀N:Dst->Prop,(∀G',U De G'->N G')->T {De with nx:=N} G): sSeq T U De G:=h _ λ_ z=>z
theorem KitV.of (t1:kitOne K (.type "int") (.type "int")=some true)(t2:kitOne K (.type "int") (.type "bool")=some false)(t3:kitOne K (.type "int") (.type "str")=some false)(t4:kitOne K (.type "int") (.type "tuple")=some false)(t5:kitOne K (.type "int") (.type "list")=some false)(t6:kitOne K (.type "bool") (.type "int")=some true)(t7:kitOne K (.type "bool") (.type "bool")=some true)(t8:kitOne K (.type "bool") (.type "str")=some false)(t9:kitOne K (.type "bool") (.type "tuple")=some false)(t10:kitOne K (.type "bool") (.type "list")=some false)(t11:kitOne K (.type "NoneType") (.type "int")=some false)(t12:kitOne K (.type "NoneType") (.type "bool")=some false)(t13:kitOne K (.type "NoneType") (.type "str")=some false)(t14:kitOne K (.type "NoneType") (.type "tuple")=some false)(t15:kitOne K (.type "NoneType") (.type "list")=some false)(t16:kitOne K (.type "str") (.type "int")=some false)(t17:kitOne K (.type "str") (.type "bool")=some false)(t18:kitOne K (.type "str") (.type "str")=some true)(t19:kitOne K (.type "str") (.type "tuple")=some false)(t20:kitOne K (.type "str") (.type "list")=some false)(t21:kitOne K (.type "tuple") (.type "int")=some false)(t22:kitOne K (.type "tuple") (.type "bool")=some false)(t23:kitOne K (.type "tuple") (.type "str")=some false)(t24:kitOne K (.type "tuple") (.type "tuple")=some true)(t25:kitOne K (.type "tuple") (.type "list")=some false)(t26:kitOne K (.type "list") (.type "int")=some false)(t27:kitOne K (.type "list") (.type "bool")=some false)(t28:kitOne K (.type "list") (.type "str")=some false)(t29:kitOne K (.type "list") (.type "tuple")=some false)(t30:kitOne K (.type "list") (.type "list")=some true)(t31:kitOne K (.type "dict") (.type "int")=some false)(t32:kitOne K (.type "dict") (.type "bool")=some false)(t33:kitOne K (.type "dict") (.type "str")=some false)(t34:kitOne K (.type "dict") (.type "tuple")=some false)(t35:kitOne K (.type "dict") (.type "list")=some false): KitV K:=by
 refine⟨λd ⟨hd,hd2,hd3⟩ n hn=>?_⟩
 simp only[kitNs,mem_cons,List.mem_nil_iff,or_false]at hn
 cases d with
 |ty m=>exact absurd rfl (hd m)
 |fn m=>exact absurd rfl (hd2 m)
 |int _=>
  rcases hn with rfl |rfl |rfl |rfl |rfl
  .exact t1
  .exact t2
  .exact t3
  .exact t4
  .exact t5
 |bl _=>
  rcases hn with rfl |rfl |rfl |rfl |rfl
  .exact t6
  .exact t7
  .exact t8
  .exact t9
  .exact t10
 |non=>
  rcases hn with rfl |rfl |rfl |rfl |rfl
  .exact t11
  .exact t12
  .exact t13
  .exact t14
  .exact t15
 |str _=>
  rcases hn with rfl |rfl |rfl |rfl |rfl
  .exact t16
  .exact t17
  .exact t18
  .exact t19
  .exact t20
 |tup _=>
  rcases hn with rfl |rfl |rfl |rfl |rfl
  .exact t21
  .exact t22
  .exact t23
  .exact t24
  .exact t25
 |lst _=>
  rcases hn with rfl |rfl |rfl |rfl |rfl
  .exact t26
  .exact t27
  .exact t28
  .exact t29
  .exact t30
 |dic=>
  rcases hn with rfl |rfl |rfl |rfl |rfl
  .exact t31
  .exact t32
  .exact t33
  .exact t34
  .exact t35
 |exc m=>exact absurd rfl (hd3.1 m)
 |obj c ns ds=>exact absurd rfl (hd3.2.1 c ns ds)
 |clo q1 q2 q3 q4=>exact absurd rfl (hd3.2.2 q1 q2 q3 q4)
end
end L2
namespace PySem
open AutoSeq1
abbrev lwSeq (T:String)(od:Option Addr)(xs:Array Value)(k:Nat)(sl:Array (Option Value)):Obj:={cls:=.type T,dict:=od,data:=.seq xs k,slots:=sl}
theorem lw_add_list (l b:Addr)(xs ys:Array Value)(k m:Nat)(od oe:Option Addr)(sl sm:Array (Option Value))(h0:xs.size+ys.size<=sizeLine):
  Meets (Builtin.«list.__add__» ⟨[.ref l,.ref b],[]⟩) (λ_ R s=>s.heap.get? l=some (lwSeq "list" od xs k sl)/\s.heap.get? b=some (lwSeq "list" oe ys m sm)/\R (.ok (.ret (.ref s.heap.objs.size))) {s with heap:=s.heap.push {cls:=.type "list",data:=.seq (xs++ys)},toks:=s.toks}):=by
 refine .of_wp λprog w A R s hR=>?_
 obtain⟨e1,e2,fin⟩:=hR
 have i3:=sub_list_list
 wp_walk using wpAny_loadPart' e1,wpAny_loadPart' e2
 exact⟨_,rfl,fin⟩
end PySem
namespace L2
open PySem PySem.Spec PyProof.Rows
section
variable {X:Cx}{K:Frag}
def rCatS (K:Frag):R2:=λx y H Q=>∃l b xs zs,x = .ref l/\y = .ref b/\SqL K H l xs/\SqL K H b zs/\xs.length+zs.length<=sizeLine/\∀p H',H p=none->Same H H'->H' p=some (.lst (xs++zs))->Q (.ref p) H'
theorem op_catS:OpR X (binaryOp .Add) (rCatS X.K):=by
 intro pins s Y H x y v u Q I rx ry h
 obtain⟨l,b,xs,zs,rfl,rfl,hA,hB,hz,q⟩:=h
 cases rx
 cases ry
 obtain⟨its,r,⟨o,n,e,o1,o2,o3⟩,_⟩:=I.list hA
 obtain⟨its2,r2,⟨o',n2,e2,p1,p2,p3⟩,_⟩:=I.list hB
 obtain⟨oc,od,oda,osl⟩:=o
 obtain⟨pc,pd,pda,psl⟩:=o'
 subst o1 o3 p1 p3
 have l1:=r.length
 have l2:=r2.length
 refine PySem.concat_meets ⟨_,e,rfl⟩ ⟨_,e2,rfl⟩ PySem.noFill_list_add PySem.seq_list_add F.slot_list_add F.entry_list_add (F.args_list_add_2 _ _) (lw_add_list l b its.toArray its2.toArray n n2 od pd osl psl (by rw[size_toArray,size_toArray];lia)) ⟨e,e2,?_⟩
 have ea:its.toArray++its2.toArray=(its++its2).toArray:=by simp
 rw[ea]
 exact⟨.ref _,_,I.lnew (t':=s.toks) (r.append r2) (by rw[length_append];omega),rfl,q _ _ I.fresh (Same.new I.fresh) upd_same⟩
def dCatL (Ea Eb:DE):DO:=λG P=>Ea G λx=>Eb G λy=>match x,y with
 | .lst xs,.lst ys=>xs.length+ys.length<=1000000/\P (.nl ((xs++ys).map .fz))
 |_,_=>False
theorem sO_catL (ha:SimF K ta Ea)(hb:SimF K tb Eb): SimO K (tOp (rCatS K) ta tb) (dCatL Ea Eb):=λF0 H0 F H Y G P Q e w q=>
 ha F0 H0 F H Y G _ _ e w λx v F1 H1 w1 x1 r1=>hb F0 H0 F1 H1 Y G _ _ (e.on x1) w1 λy u F2 H2 w2 x2 r2=>by
  have x12:=x1.trans x2
  split at w2
  .obtain ⟨p,vs,rfl,h1,h2⟩:=r1.mono x2.ff
   obtain⟨p',vs',rfl,h1',h2'⟩:=r2
   have l1:=h2.length
   have l2:=h2'.length
   exact⟨p,p',vs,vs',rfl,rfl,x2.fh.seq h1,x2.fh.seq h1',sz_le (by lia),λl H' l0 sm lq=>q _ _ F2 H' w2.2 (x12.trans (Ext.grow x2.fh sm)) (RepN.list (x12.hh.free l0) (x2.fh.free l0) lq (h2.append h2'))⟩
  .exact w2.elim
theorem ER.frz {A:Nat->List Addr}(e:ER K F0 H0 F H Y G A)(i:Nat)(hi:G[i]?=some (some (.own t))): ∃F',EnvR K F0 H0 F' H Y (G.set i (some (.own (.fz t.val)))):=by
 obtain⟨v,hv,hr⟩:=e.own i t hi
 have hlt:=(List.getElem?_eq_some_iff.mp hi).1
 have sm:Same F λa=>if a∈A i then H a else F a:=λb o z=>by
  have hb:b∉A i:=λy=>by rw[(e.new i b y).1]at z;cases z
  dsimp only
  rw[if_neg hb];exact z
 refine⟨λa=>if a∈A i then H a else F a,λj=>if j=i then [] else A j,by simp[e.len],⟨e.ext.ff.trans sm,e.ext.hh,λb o z=>?_,λb o z1 z2 z3=>?_⟩,λj u hj=>?_,λj d hj=>?_,λj=>?_,λj k a hjk h1 h2=>?_,λj a ha=>?_⟩
 .split at z
  .exact z
  .exact e.ext.fh _ _ z
 .have hb:b∉A i:=λy=>by rw[(e.new i b y).2.1]at z2;cases z2
  rw[if_neg hb];exact e.ext.no b o z1 z2 z3
 .by_cases z:j=i
  .subst z
   rw[if_pos rfl]
   rw[getElem?_set_self hlt]at hj
   cases hj
   exact⟨v,hv,rfl,hr.rep sm λa ha xs q=>by rw[if_pos ha];exact q⟩
  .rw [if_neg z]
   rw[getElem?_set_ne (Ne.symm z)]at hj
   obtain⟨v',h1,h2⟩:=e.own j u hj
   exact⟨v',h1,h2.frame sm λa _ xs q=>q⟩
 .by_cases z:j=i
  .subst z
   rw[getElem?_set_self hlt]at hj
   cases hj
  .rw [getElem?_set_ne (Ne.symm z)]at hj
   exact e.bw j d hj
 .split
  .exact nodup_nil
  .exact e.nod j
 .split at h1
  .cases h1
  .split at h2
   .cases h2
   .exact e.dis j k a hjk h1 h2
 .split at ha
  .cases ha
  .rename_i z
   obtain⟨h1,h2,h3⟩:=e.new j a ha
   refine⟨?_,h2,h3⟩
   rw[if_neg λy=>e.dis j i a z ha y];exact h1
def sFrz (i:Nat)(T:DS):DS:=λDe G=>match G[i]? with
 |some (some (.own t))=>T De (G.set i (some (.own (.fz t.val))))
 |_=>False
theorem sS_frz (i:Nat)(h:SimS K t T): SimS K t (sFrz i T):=λF0 H0 F H Y G De En ⟨A,e⟩ l w=>by
 unfold sFrz at w
 split at w
 .rename_i u hu
  obtain⟨F',e'⟩:=e.frz i hu
  exact h F0 H0 F' H Y _ De En e' l w
 .exact w.elim
end
def catTD:DR2:=λx y P=>match x,y with
 | .tup xs,.tup ys=>xs≠[]/\ys≠[]/\xs.length+ys.length<=1000000/\P (.tup (xs++ys))
 |_,_=>False
def D.fit:Nat->D->Bool
 |_,.int _=>true
 |_,.str _=>true
 |_,.non=>true
 |_,.bl _=>true
 |_,.ty _=>false
 |_,.fn _=>false
 |_,.dic=>false
 |_,.exc _=>false
 |_,.obj _ _ _=>false
 |_,.clo _ _ _ _=>false
 | 0,.tup _=>false
 | 0,.lst _=>false
 |n+1,.tup ds=>ds.all (D.fit n)
 |n+1,.lst ds=>ds.all (D.fit n)
mutual
def D.eqb:D->D->Bool
 | .int i,.int j=>decide (i=j)
 | .str x,.str y=>decide (x=y)
 | .non,.non=>true
 | .bl a,.bl b=>a==b
 | .bl a,.int j=>decide ((if a then 1 else 0)=j)
 | .int i,.bl b=>decide (i=if b then 1 else 0)
 | .tup xs,.tup ys=>D.eqbs xs ys
 | .lst xs,.lst ys=>D.eqbs xs ys
 |_,_=>false
def D.eqbs:List D->List D->Bool
 | [],[]=>true
 |x::xs,y::ys=>D.eqb x y && D.eqbs xs ys
 |_,_=>false
end
def D.same:D->D->Bool
 | .tup _,.tup _=>true
 | .lst _,.lst _=>true
 |_,_=>false
def eqND:DR2:=λx y P=>x.same y=true/\x.fit 4=true/\y.fit 4=true/\P (.bl (D.eqb x y))
def neND:DR2:=λx y P=>x.same y=true/\x.fit 4=true/\y.fit 4=true/\P (.bl (!D.eqb x y))
section
variable {K:Frag}{X:Cx}
def eD (xs ys:List D)(j:Nat):Bool:=match xs[j]?,ys[j]? with
 |some x,some y=>D.eqb x y
 |_,_=>true
theorem eqbs_rng:∀(xs ys:List D),D.eqbs xs ys=((List.range (min xs.length ys.length)).all (eD xs ys) && xs.length==ys.length)
 | [],[]=>by simp[D.eqbs]
 | [],_::_=>by simp[D.eqbs]
 |_::_,[]=>by simp[D.eqbs]
 |x :: xs,y::ys=>by
  have ih:=eqbs_rng xs ys
  simp only[D.eqbs,length_cons]
  rw[show min (xs.length+1) (ys.length+1)=min xs.length ys.length+1 by lia,List.range_succ_eq_map,List.all_cons,List.all_map,ih]
  have e0:eD (x::xs) (y::ys) 0=D.eqb x y:=rfl
  have e1:(eD (x::xs) (y::ys)∘Nat.succ)=eD xs ys:=by
   funext j
   simp[eD,Function.comp]
  rw[e0,e1,Bool.and_assoc]
  congr 2
  simp
theorem rep_one (I:Inv X pins Y H s): ∀(n:Nat) {x y:D} {v:V},x.fit n=true->y.fit n=true->Rep X.K H x v->Rep X.K H y v->D.eqb x y=true:=by
 have items:∀(n:Nat),(∀{x y:D} {v:V},x.fit n=true->y.fit n=true->Rep X.K H x v->Rep X.K H y v->D.eqb x y=true)->∀{xs ys:List D} {vs:List V},xs.all (D.fit n)=true->ys.all (D.fit n)=true->Reps X.K H xs vs->Reps X.K H ys vs->D.eqbs xs ys=true:=by
  intro n ih xs
  induction xs with
  |nil=>
   intro ys vs _ _ r1 r2
   cases r1
   cases ys with
   |nil=>rfl
   |cons y ys=>obtain⟨v,r,e,_⟩:=r2;cases e
  |cons x xs ihx=>
   intro ys vs f1 f2 r1 r2
   obtain⟨v,r,rfl,h1,h2⟩:=r1
   cases ys with
   |nil=>cases r2
   |cons y ys=>
    obtain⟨v',r',e,h3,h4⟩:=r2
    cases e
    rw[List.all_cons,and_eq_true]at f1 f2
    simp only[D.eqbs,ih f1.1 f2.1 h1 h3,ihx f1.2 f2.2 h2 h4,Bool.and_self]
 have tl:∀{a:Addr} {xs ys:List V},SqT X.K H a xs->SqL X.K H a ys->False:=λ{a xs ys} h1 h2=>by
  obtain⟨_,_,p1,_⟩:=I.tuple h1
  obtain⟨_,_,p2,_⟩:=I.list h2
  obtain⟨o,e1,c1,_⟩:=p1
  obtain⟨o',e2,c2,_⟩:=p2.isList
  rw[e1]at e2;cases e2
  rw[c1]at c2;simp at c2
 intro n
 induction n with
 |zero=>
  intro x y v fx fy rx ry
  cases x<;>cases y<;>simp[D.fit]at fx fy<;>simp[D.eqb]
  all_goals first
   | (have z:=(show v=_ from rx).symm.trans (show v=_ from ry);first | (injection z) | (cases z))
   |skip
 |succ n ih=>
  intro x y v fx fy rx ry
  cases x<;>cases y
  case tup.tup xs ys=>
   obtain⟨a,vs,rfl,h1,h2⟩:=rx
   obtain⟨b,us,e,h3,h4⟩:=ry
   cases e
   cases I.tuple_inj h1 h3
   simp only[D.eqb]
   exact items n ih (by simpa only[D.fit] using fx) (by simpa only[D.fit] using fy) h2 h4
  case lst.lst xs ys=>
   obtain⟨a,vs,rfl,h1,h2⟩:=rx
   obtain⟨b,us,e,h3,h4⟩:=ry
   cases e
   cases I.list_inj h1 h3
   simp only[D.eqb]
   exact items n ih (by simpa only[D.fit] using fx) (by simpa only[D.fit] using fy) h2 h4
  case tup.lst xs ys=>
   obtain⟨a,vs,rfl,h1,h2⟩:=rx
   obtain⟨b,us,e,h3,h4⟩:=ry
   cases e
   exact (tl h1 h3).elim
  case lst.tup xs ys=>
   obtain⟨a,vs,rfl,h1,h2⟩:=rx
   obtain⟨b,us,e,h3,h4⟩:=ry
   cases e
   exact (tl h3 h1).elim
  all_goals first
   | (simp[D.fit]at fx;done)
   | (simp[D.fit]at fy;done)
   | (have z:=(show v=_ from rx).symm.trans (show v=_ from ry);first | (cases z;done) | (injection z with z;simp[D.eqb,z];done) | (simp[D.eqb];done))
   | (obtain⟨a,vs,e,_⟩:=rx;have z:=e.symm.trans (show v=_ from ry);cases z;done)
   | (obtain⟨a,vs,e,_⟩:=ry;have z:=(show v=_ from rx).symm.trans e;cases z;done)
theorem eqAt_D (I:Inv X pins Y H s): ∀(n:Nat) {A:Around} {x y:D} {v u:V} {a b:Value},A.units+n<cLine->x.fit n=true->y.fit n=true->Rep X.K H x v->Rep X.K H y u->RelV v a->RelV u b->SeqAt.EqAt A s a b (D.eqb x y):=by
 intro n
 induction n with
 |zero=>
  intro A x y v u a b hu fx fy rx ry ra rb
  by_cases hbl:(∃c,x = .bl c)∨∃c,y = .bl c
  .cases x<;>cases y<;>first | (simp[D.fit]at fx;done) | (simp[D.fit]at fy;done) | (rcases hbl with⟨c,z⟩ | ⟨c,z⟩<;>cases z;done) |skip
   case bl.bl=>cases (show v=_ from rx);cases (show u=_ from ry);cases ra;cases rb;simp only[D.eqb];exact SeqAt.EqAt.bool_bool _ _
   case bl.int=>cases (show v=_ from rx);cases (show u=_ from ry);cases ra;obtain⟨t,rfl⟩:=rb;simp only[D.eqb];rw[<- show ∀i j:Int,(i==j)=decide (i=j) from λi j=>by rw[Bool.eq_iff_iff];simp];exact SeqAt.EqAt.bool_int _ _ _
   case int.bl=>cases (show v=_ from rx);cases (show u=_ from ry);cases rb;obtain⟨t,rfl⟩:=ra;simp only[D.eqb];rw[<- show ∀i j:Int,(i==j)=decide (i=j) from λi j=>by rw[Bool.eq_iff_iff];simp];exact SeqAt.EqAt.int_bool _ _ _
   case bl.non=>cases (show v=_ from rx);cases (show u=_ from ry);cases ra;cases rb;exact SeqAt.EqAt.bool_none _
   case non.bl=>cases (show v=_ from rx);cases (show u=_ from ry);cases ra;cases rb;exact SeqAt.EqAt.none_bool _
   case bl.str=>cases (show v=_ from rx);cases (show u=_ from ry);cases ra;obtain⟨t,rfl⟩:=rb;exact SeqAt.EqAt.bool_str _ _ _
   case str.bl=>cases (show v=_ from rx);cases (show u=_ from ry);cases rb;obtain⟨t,rfl⟩:=ra;exact SeqAt.EqAt.str_bool _ _ _
  have key:flatV v=true/\flatV u=true/\eqV v u=D.eqb x y:=by
   cases x<;>cases y<;>first | (simp[D.fit]at fx;done) | (simp[D.fit]at fy;done) | (exact absurd (.inl ⟨_,rfl⟩) hbl) | (exact absurd (.inr ⟨_,rfl⟩) hbl) |skip
   all_goals
    have e1:v=_:=rx
    have e2:u=_:=ry
    subst e1 e2
    refine⟨rfl,rfl,?_⟩
    first |rfl | (simp[eqV,D.eqb];done) | (simp only[eqV,D.eqb];exact Bool.beq_eq_decide_eq _ _)
  rw[<- key.2.2]
  exact eqAt_V ra rb key.1 key.2.1
 |succ n ih=>
  intro A x y v u a b hu fx fy rx ry ra rb
  have hu0:A.units<cLine:=by lia
  have hu1:A.in1.units+n<cLine:=by rw[show A.in1.units=A.units+1 from rfl];lia
  cases x<;>cases y
  case tup.tup xs ys=>
   obtain⟨p,vs,rfl,h1,h2⟩:=rx
   obtain⟨q,us,rfl,h3,h4⟩:=ry
   cases ra
   cases rb
   by_cases hpq:p=q
   .subst hpq
    have:=rep_one I (n+1) fx fy (v:=.ref p) ⟨p,vs,rfl,h1,h2⟩ ⟨p,us,rfl,h3,h4⟩
    rw[this]
    exact SeqAt.EqAt.same _
   .obtain ⟨its,w1,p1,_⟩:=I.tuple h1
    obtain⟨its2,w2,p2,_⟩:=I.tuple h3
    have l1:=h2.length
    have l2:=h4.length
    have m1:=w1.length
    have m2:=w2.length
    simp only[D.fit]at fx fy
    have:=SeqAt.RcAt.tuples (e:=eD xs ys) p1 p2 hu0 (λj j1 j2=>by
     obtain⟨z1,e1,r1⟩:=w1.at j1
     obtain⟨z2,e2,r2⟩:=w2.at j2
     obtain⟨d1,g1,k1⟩:=h2.get' e1
     obtain⟨d2,g2,k2⟩:=h4.get' e2
     have e:eD xs ys j=D.eqb d1 d2:=by unfold eD;rw[g1,g2]
     rw[e]
     exact ih hu1 (all_eq_true.mp fx d1 (mem_of_getElem? g1)) (all_eq_true.mp fy d2 (mem_of_getElem? g2)) k1 k2 r1 r2)
    rw[show its.toArray.size=xs.length by rw[size_toArray];lia,show its2.toArray.size=ys.length by rw[size_toArray];lia,<- eqbs_rng]at this
    simp only[D.eqb]
    exact SeqAt.EqAt.of_refs hpq this
  case lst.lst xs ys=>
   obtain⟨p,vs,rfl,h1,h2⟩:=rx
   obtain⟨q,us,rfl,h3,h4⟩:=ry
   cases ra
   cases rb
   by_cases hpq:p=q
   .subst hpq
    have:=rep_one I (n+1) fx fy (v:=.ref p) ⟨p,vs,rfl,h1,h2⟩ ⟨p,us,rfl,h3,h4⟩
    rw[this]
    exact SeqAt.EqAt.same _
   .obtain ⟨its,w1,p1,_⟩:=I.list h1
    obtain⟨its2,w2,p2,_⟩:=I.list h3
    have l1:=h2.length
    have l2:=h4.length
    have m1:=w1.length
    have m2:=w2.length
    simp only[D.fit]at fx fy
    simp only[D.eqb]
    refine SeqAt.EqAt.of_refs hpq ?_
    by_cases hl:xs.length=ys.length
    .have:=SeqAt.RcAt.lists (e:=eD xs ys) p1.isList p2.isList (by rw[size_toArray,size_toArray];lia) hu0 (λj j1 j2=>by
      obtain⟨z1,e1,r1⟩:=w1.at j1
      obtain⟨z2,e2,r2⟩:=w2.at j2
      obtain⟨d1,g1,k1⟩:=h2.get' e1
      obtain⟨d2,g2,k2⟩:=h4.get' e2
      have e:eD xs ys j=D.eqb d1 d2:=by unfold eD;rw[g1,g2]
      rw[e]
      exact ih hu1 (all_eq_true.mp fx d1 (mem_of_getElem? g1)) (all_eq_true.mp fy d2 (mem_of_getElem? g2)) k1 k2 r1 r2)
     rw[eqbs_rng,<- hl,min_self,beq_self_eq_true,Bool.and_true]
     rw[show its.toArray.size=xs.length by rw[size_toArray];lia]at this
     exact this
    .rw [eqbs_rng,show (xs.length==ys.length)=false by simpa using hl,Bool.and_false]
     exact SeqAt.RcAt.lists_lengths p1.isList p2.isList (by rw[size_toArray,size_toArray];simp only[bne_iff_ne,ne_eq];lia) hu0
  case tup.lst xs ys=>
   obtain⟨p,vs,rfl,h1,h2⟩:=rx
   obtain⟨q,us,rfl,h3,h4⟩:=ry
   cases ra
   cases rb
   obtain⟨its,w1,p1,_⟩:=I.tuple h1
   obtain⟨its2,w2,p2,_⟩:=I.list h3
   exact SeqAt.EqAt.tuple_list p1 p2.isList hu0
  case lst.tup xs ys=>
   obtain⟨p,vs,rfl,h1,h2⟩:=rx
   obtain⟨q,us,rfl,h3,h4⟩:=ry
   cases ra
   cases rb
   obtain⟨its,w1,p1,_⟩:=I.list h1
   obtain⟨its2,w2,p2,_⟩:=I.tuple h3
   exact SeqAt.EqAt.list_tuple p1.isList p2 hu0
  case bl.tup=>obtain⟨p,vs,rfl,h1,_⟩:=ry;cases rb;cases (show v=_ from rx);cases ra;obtain⟨its,w1,p1,_⟩:=I.tuple h1;exact SeqAt.EqAt.bool_tuple _ p1 hu0
  case bl.lst=>obtain⟨p,vs,rfl,h1,_⟩:=ry;cases rb;cases (show v=_ from rx);cases ra;obtain⟨its,w1,p1,_⟩:=I.list h1;exact SeqAt.EqAt.bool_list _ p1.isList hu0
  case ty.tup=>simp[D.fit]at fx
  case ty.lst=>simp[D.fit]at fx
  case fn.tup=>simp[D.fit]at fx
  case fn.lst=>simp[D.fit]at fx
  case dic.tup=>simp[D.fit]at fx
  case dic.lst=>simp[D.fit]at fx
  case exc.tup=>simp[D.fit]at fx
  case obj.tup=>simp[D.fit]at fx
  case clo.tup=>simp[D.fit]at fx
  case clo.lst=>simp[D.fit]at fx
  case tup.clo=>simp[D.fit]at fy
  case lst.clo=>simp[D.fit]at fy
  case obj.lst=>simp[D.fit]at fx
  case tup.obj=>simp[D.fit]at fy
  case lst.obj=>simp[D.fit]at fy
  case exc.lst=>simp[D.fit]at fx
  case tup.dic=>simp[D.fit]at fy
  case lst.dic=>simp[D.fit]at fy
  case tup.exc=>simp[D.fit]at fy
  case lst.exc=>simp[D.fit]at fy
  case tup.bl=>obtain⟨p,vs,rfl,h1,_⟩:=rx;cases ra;cases (show u=_ from ry);cases rb;obtain⟨its,w1,p1,_⟩:=I.tuple h1;exact SeqAt.EqAt.tuple_bool _ p1 hu0
  case lst.bl=>obtain⟨p,vs,rfl,h1,_⟩:=rx;cases ra;cases (show u=_ from ry);cases rb;obtain⟨its,w1,p1,_⟩:=I.list h1;exact SeqAt.EqAt.list_bool _ p1.isList hu0
  case tup.ty=>simp[D.fit]at fy
  case lst.ty=>simp[D.fit]at fy
  case tup.fn=>simp[D.fit]at fy
  case lst.fn=>simp[D.fit]at fy
  case tup.int=>obtain⟨p,vs,rfl,h1,_⟩:=rx;cases ra;cases (show u=_ from ry);obtain⟨t,rfl⟩:=rb;obtain⟨its,w1,p1,_⟩:=I.tuple h1;exact SeqAt.EqAt.tuple_int _ _ p1 hu0
  case tup.non=>obtain⟨p,vs,rfl,h1,_⟩:=rx;cases ra;cases (show u=_ from ry);cases rb;obtain⟨its,w1,p1,_⟩:=I.tuple h1;exact SeqAt.EqAt.tuple_none p1 hu0
  case tup.str=>obtain⟨p,vs,rfl,h1,_⟩:=rx;cases ra;cases (show u=_ from ry);obtain⟨t,rfl⟩:=rb;obtain⟨its,w1,p1,_⟩:=I.tuple h1;exact SeqAt.EqAt.tuple_str _ _ p1 hu0
  case lst.int=>obtain⟨p,vs,rfl,h1,_⟩:=rx;cases ra;cases (show u=_ from ry);obtain⟨t,rfl⟩:=rb;obtain⟨its,w1,p1,_⟩:=I.list h1;exact SeqAt.EqAt.list_int _ _ p1.isList hu0
  case lst.non=>obtain⟨p,vs,rfl,h1,_⟩:=rx;cases ra;cases (show u=_ from ry);cases rb;obtain⟨its,w1,p1,_⟩:=I.list h1;exact SeqAt.EqAt.list_none p1.isList hu0
  case lst.str=>obtain⟨p,vs,rfl,h1,_⟩:=rx;cases ra;cases (show u=_ from ry);obtain⟨t,rfl⟩:=rb;obtain⟨its,w1,p1,_⟩:=I.list h1;exact SeqAt.EqAt.list_str _ _ p1.isList hu0
  case int.tup=>obtain⟨p,vs,rfl,h1,_⟩:=ry;cases rb;cases (show v=_ from rx);obtain⟨t,rfl⟩:=ra;obtain⟨its,w1,p1,_⟩:=I.tuple h1;exact SeqAt.EqAt.int_tuple _ _ p1 hu0
  case non.tup=>obtain⟨p,vs,rfl,h1,_⟩:=ry;cases rb;cases (show v=_ from rx);cases ra;obtain⟨its,w1,p1,_⟩:=I.tuple h1;exact SeqAt.EqAt.none_tuple p1 hu0
  case str.tup=>obtain⟨p,vs,rfl,h1,_⟩:=ry;cases rb;cases (show v=_ from rx);obtain⟨t,rfl⟩:=ra;obtain⟨its,w1,p1,_⟩:=I.tuple h1;exact SeqAt.EqAt.str_tuple _ _ p1 hu0
  case int.lst=>obtain⟨p,vs,rfl,h1,_⟩:=ry;cases rb;cases (show v=_ from rx);obtain⟨t,rfl⟩:=ra;obtain⟨its,w1,p1,_⟩:=I.list h1;exact SeqAt.EqAt.int_list _ _ p1.isList hu0
  case non.lst=>obtain⟨p,vs,rfl,h1,_⟩:=ry;cases rb;cases (show v=_ from rx);cases ra;obtain⟨its,w1,p1,_⟩:=I.list h1;exact SeqAt.EqAt.none_list p1.isList hu0
  case str.lst=>obtain⟨p,vs,rfl,h1,_⟩:=ry;cases rb;cases (show v=_ from rx);obtain⟨t,rfl⟩:=ra;obtain⟨its,w1,p1,_⟩:=I.list h1;exact SeqAt.EqAt.str_list _ _ p1.isList hu0
  all_goals
   refine ih (by lia) ?_ ?_ rx ry ra rb
   .first |rfl | (simp[D.fit]at fx;done) | (simp[D.fit];done)
   .first |rfl | (simp[D.fit]at fy;done) | (simp[D.fit];done)
def rEqN (K:Frag):R2:=λv u H Q=>∃x y,x.same y=true/\x.fit 4=true/\y.fit 4=true/\Rep K H x v/\Rep K H y u/\Q (.bl (D.eqb x y)) H
def rNeN (K:Frag):R2:=λv u H Q=>∃x y,x.same y=true/\x.fit 4=true/\y.fit 4=true/\Rep K H x v/\Rep K H y u/\Q (.bl (!D.eqb x y)) H
theorem op_eqN (hu:X.A.units+64<cLine): OpR X (compareOp .Eq) (rEqN X.K):=by
 intro pins s Y H v u a b Q I ra rb h
 obtain⟨x,y,hs,fx,fy,rx,ry,q⟩:=h
 have hu0:X.A.units<cLine:=by lia
 have hu1:X.A.in1.units+3<cLine:=by rw[show X.A.in1.units=X.A.units+1 from rfl];lia
 cases x<;>cases y<;>first | (simp[D.same]at hs;done) |skip
 case tup.tup xs ys=>
  obtain⟨p,vs,rfl,h1,h2⟩:=rx
  obtain⟨p',us,rfl,h3,h4⟩:=ry
  cases ra
  cases rb
  obtain⟨its,w1,p1,_⟩:=I.tuple h1
  obtain⟨its2,w2,p2,_⟩:=I.tuple h3
  have l1:=h2.length
  have l2:=h4.length
  have m1:=w1.length
  have m2:=w2.length
  simp only[D.fit]at fx fy
  refine SeqAt.RcAt.tuples (e:=eD xs ys) p1 p2 hu0 (λj j1 j2=>by
   obtain⟨z1,e1,r1⟩:=w1.at j1
   obtain⟨z2,e2,r2⟩:=w2.at j2
   obtain⟨d1,g1,k1⟩:=h2.get' e1
   obtain⟨d2,g2,k2⟩:=h4.get' e2
   have e:eD xs ys j=D.eqb d1 d2:=by unfold eD;rw[g1,g2]
   rw[e]
   exact eqAt_D I 3 hu1 (all_eq_true.mp fx d1 (mem_of_getElem? g1)) (all_eq_true.mp fy d2 (mem_of_getElem? g2)) k1 k2 r1 r2) _ _ _ _ ?_
  rw[show its.toArray.size=xs.length by rw[size_toArray];lia,show its2.toArray.size=ys.length by rw[size_toArray];lia,<- eqbs_rng]
  simp only[D.eqb]at q
  exact⟨.bl _,H,I,rfl,q⟩
 case lst.lst xs ys=>
  obtain⟨p,vs,rfl,h1,h2⟩:=rx
  obtain⟨p',us,rfl,h3,h4⟩:=ry
  cases ra
  cases rb
  obtain⟨its,w1,p1,_⟩:=I.list h1
  obtain⟨its2,w2,p2,_⟩:=I.list h3
  have l1:=h2.length
  have l2:=h4.length
  have m1:=w1.length
  have m2:=w2.length
  simp only[D.fit]at fx fy
  simp only[D.eqb]at q
  rw[eqbs_rng]at q
  by_cases hl:xs.length=ys.length
  .refine SeqAt.RcAt.lists (e:=eD xs ys) p1.isList p2.isList (by rw[size_toArray,size_toArray];lia) hu0 (λj j1 j2=>by
    obtain⟨z1,e1,r1⟩:=w1.at j1
    obtain⟨z2,e2,r2⟩:=w2.at j2
    obtain⟨d1,g1,k1⟩:=h2.get' e1
    obtain⟨d2,g2,k2⟩:=h4.get' e2
    have e:eD xs ys j=D.eqb d1 d2:=by unfold eD;rw[g1,g2]
    rw[e]
    exact eqAt_D I 3 hu1 (all_eq_true.mp fx d1 (mem_of_getElem? g1)) (all_eq_true.mp fy d2 (mem_of_getElem? g2)) k1 k2 r1 r2) _ _ _ _ ?_
   rw[<- hl,min_self,beq_self_eq_true,Bool.and_true]at q
   rw[show its.toArray.size=xs.length by rw[size_toArray];lia]
   exact⟨.bl _,H,I,rfl,q⟩
  .rw [show (xs.length==ys.length)=false by simpa using hl,Bool.and_false]at q
   exact SeqAt.RcAt.lists_lengths p1.isList p2.isList (by rw[size_toArray,size_toArray];simp only[bne_iff_ne,ne_eq];lia) hu0 _ _ _ _ ⟨.bl _,H,I,rfl,q⟩
theorem op_neN (hu:X.A.units+64<cLine): OpR X (compareOp .NotEq) (rNeN X.K):=by
 intro pins s Y H v u a b Q I ra rb h
 obtain⟨x,y,hs,fx,fy,rx,ry,q⟩:=h
 have hu0:X.A.units<cLine:=by lia
 have hu1:X.A.in1.units+3<cLine:=by rw[show X.A.in1.units=X.A.units+1 from rfl];lia
 cases x<;>cases y<;>first | (simp[D.same]at hs;done) |skip
 case tup.tup xs ys=>
  obtain⟨p,vs,rfl,h1,h2⟩:=rx
  obtain⟨p',us,rfl,h3,h4⟩:=ry
  cases ra
  cases rb
  obtain⟨its,w1,p1,_⟩:=I.tuple h1
  obtain⟨its2,w2,p2,_⟩:=I.tuple h3
  have l1:=h2.length
  have l2:=h4.length
  have m1:=w1.length
  have m2:=w2.length
  simp only[D.fit]at fx fy
  refine SeqAt.RcNeAt.tuples (e:=eD xs ys) p1 p2 hu0 (λj j1 j2=>by
   obtain⟨z1,e1,r1⟩:=w1.at j1
   obtain⟨z2,e2,r2⟩:=w2.at j2
   obtain⟨d1,g1,k1⟩:=h2.get' e1
   obtain⟨d2,g2,k2⟩:=h4.get' e2
   have e:eD xs ys j=D.eqb d1 d2:=by unfold eD;rw[g1,g2]
   rw[e]
   exact eqAt_D I 3 hu1 (all_eq_true.mp fx d1 (mem_of_getElem? g1)) (all_eq_true.mp fy d2 (mem_of_getElem? g2)) k1 k2 r1 r2) _ _ _ _ ?_
  rw[show its.toArray.size=xs.length by rw[size_toArray];lia,show its2.toArray.size=ys.length by rw[size_toArray];lia,<- eqbs_rng]
  simp only[D.eqb]at q
  exact⟨.bl _,H,I,rfl,q⟩
 case lst.lst xs ys=>
  obtain⟨p,vs,rfl,h1,h2⟩:=rx
  obtain⟨p',us,rfl,h3,h4⟩:=ry
  cases ra
  cases rb
  obtain⟨its,w1,p1,_⟩:=I.list h1
  obtain⟨its2,w2,p2,_⟩:=I.list h3
  have l1:=h2.length
  have l2:=h4.length
  have m1:=w1.length
  have m2:=w2.length
  simp only[D.fit]at fx fy
  simp only[D.eqb]at q
  rw[eqbs_rng]at q
  by_cases hl:xs.length=ys.length
  .refine SeqAt.RcNeAt.lists (e:=eD xs ys) p1.isList p2.isList (by rw[size_toArray,size_toArray];lia) hu0 (λj j1 j2=>by
    obtain⟨z1,e1,r1⟩:=w1.at j1
    obtain⟨z2,e2,r2⟩:=w2.at j2
    obtain⟨d1,g1,k1⟩:=h2.get' e1
    obtain⟨d2,g2,k2⟩:=h4.get' e2
    have e:eD xs ys j=D.eqb d1 d2:=by unfold eD;rw[g1,g2]
    rw[e]
    exact eqAt_D I 3 hu1 (all_eq_true.mp fx d1 (mem_of_getElem? g1)) (all_eq_true.mp fy d2 (mem_of_getElem? g2)) k1 k2 r1 r2) _ _ _ _ ?_
   rw[<- hl,min_self,beq_self_eq_true,Bool.and_true]at q
   rw[show its.toArray.size=xs.length by rw[size_toArray];lia]
   exact⟨.bl _,H,I,rfl,q⟩
  .rw [show (xs.length==ys.length)=false by simpa using hl,Bool.and_false]at q
   exact SeqAt.RcNeAt.lists_lengths p1.isList p2.isList (by rw[size_toArray,size_toArray];simp only[bne_iff_ne,ne_eq];lia) hu0 _ _ _ _ ⟨.bl _,H,I,rfl,q⟩
theorem oS_eqN:OpS K (rEqN K) eqND:=λF H x y v u P Q s rx ry w q=>by
 obtain⟨hs,fx,fy,w⟩:=w
 exact⟨x,y,hs,fx,fy,rx,ry,q _ _ F H w (Ext.refl s) rfl⟩
theorem oS_neN:OpS K (rNeN K) neND:=λF H x y v u P Q s rx ry w q=>by
 obtain⟨hs,fx,fy,w⟩:=w
 exact⟨x,y,hs,fx,fy,rx,ry,q _ _ F H w (Ext.refl s) rfl⟩
end
structure BltV (mg:Str->Option Value):Prop extends Blt mg where
 abs:mg "abs"=none
 any:mg "any"=none
 sum:mg "sum"=none
 sorted:mg "sorted"=none
 set:mg "set"=none
 enumerate:mg "enumerate"=none
 dict:mg "dict"=none
 str:mg "str"=none
 divmod:mg "divmod"=none
 ord:mg "ord"=none
abbrev DIO:=List OV->List D->(List OV->Prop)->Prop
def startIO (N:List Str)(a:Addr)(ts:List OV)(ds:List D):Dst:=some (.own (.rt a ts))::(ds.map (λd=>some (.own (.fz d)))++List.replicate (N.length-(ds.length+1)) none)
section
variable {K:Frag}{X:Cx}{mg:Str->Option Value}
def NsOf (K:Frag)(mg:Str->Option Value)(x:Str):Prop:=∃f,nsIn K mainGlobals x=some (some (.ref f))/\mg x=some (.ref f)
def tFn (K:Frag)(x:Str):TE:=λY H Q=>∃f,nsIn K mainGlobals x=some (some (.ref f))/\Q (.ref f) H
theorem pe_fn (hg:Gl X x)(h:NsOf X.K X.mg x)(hd:(x==("__debug__":Str))=false:=by decide): PE X (.Name x pos) (tFn X.K x):=by
 intro pins s Y H Q I ⟨f,e,q⟩
 obtain⟨f',e1,e2⟩:=h
 rw[e]at e1
 cases e1
 exact pe_glob (v:=.ref f) hg e2 rfl hd pins s Y H Q I q
theorem sF_fn (h:NsOf K mg x): SimF K (tFn K x) (dC (.fn x)):=λF0 H0 F H Y G P Q e w q=>by
 obtain⟨f,e1,_⟩:=h
 exact⟨f,e1,q _ _ F H w (Ext.refl e.ext.fh) ⟨f,rfl,e1⟩⟩
def spIO (K:Frag)(n:Nat)(sp:DIO):Sp:=spL n λvs H Q=>∃F a ts vs0 B rest ds P,vs=V.ref a::rest/\Same F H/\H a=some (.lst vs0)/\RepOs K F H ts vs0 B/\(a::B).Nodup/\(∀b∈a::B,F b=none)/\Reps K F ds rest/\sp ts ds P/\
 ∀ts' F' H' vs' B',P ts'->Same F F'->Same F' H'->(∀b o,b∉a::B->H b=some o->H' b=some o)->(∀b o,F b=none->H b=some o->imm o=false->b∉a::B->F' b=none)->H' a=some (.lst vs')->RepOs K F' H' ts' vs' B'->(a::B').Nodup->
  (∀b∈a::B',F' b=none/\(b∈a::B∨H b=none))->Q .non H'
theorem CalIO.of {P:Program}{w:World}{base:Heap}{x:Str}{st:Stmt}{f:Addr}{fd:FuncData}{N ps:List Str}{k n:Nat}{sp:DIO}(Df:DefAt K mg x st f fd)(S:FnScope N ps (defScope st))
  (hb:∀(kV doc pm:Value) (an:Option Addr) (cdv ct:Value) (us:List Value),us.length=ps.length->bindArgs (fnOf x x (defArgs st) (defBody st) (defScope st) .none kV doc pm an cdv ct) ⟨us,[]⟩=pure (ps.zip us)) (hn:n=ps.length)
  (hbody:∀(cdv:Value) (A:Around) (outer:List Env) (s:Shared) (H:Hp) (E:XK),Room k (A.deeper (envOfC x (defScope st) s.heap.objs.size f cdv))->
   ∃t T,PSs (cxOf CX0 P w K mg base N x (defScope st) f cdv A outer s H E).nox (defBody st) t/\SimS K t T/\∀(a:Addr) ts ds Pr,sp ts ds Pr->T {nx:=λG=>∃ts',G[0]?=some (some (.own (.rt a ts')))/\Pr ts',rt:=λ_=>False} (startIO N a ts ds)):Cal P w K mg base x (k+1) ps (spIO K n sp):=
 Cal.of Df S hb (λvs H Q E h=>by rw[<- hn];exact h.1) λcdv A outer s H vs Q E hr h=>by
  obtain⟨_,F,a,ts,vs0,B,rest,ds,Pr,rfl,hs,ha,hB,hnd,hnf,hr',hsp,hq⟩:=h
  obtain⟨t,T,h1,h2,h3⟩:=hbody cdv A outer s H E hr
  have hl:=hr'.length
  have er : ER K F (λb=>if b∈a::B then none else H b) F H (start N (V.ref a::rest)) (startIO N a ts ds) (λj=>if j=0 then a::B else []):=by
   refine⟨by simp[start,startIO,hl],⟨Same.refl _,λb o z=>?_,hs,λ_ _ z _ _=>z⟩,λi t hi=>?_,λi d hi=>?_,λj=>?_,λj k b hjk y1 y2=>?_,λj b hb=>?_⟩
   .split at z
    .cases z
    .exact z
   .unfold startIO at hi
    cases i with
    |zero=>
     simp at hi
     subst hi
     exact⟨.ref a,rfl,vs0,B,rfl,rfl,ha,hB⟩
    |succ i=>
     rw[getElem?_cons_succ]at hi
     by_cases z:i<ds.length
     .rw [getElem?_append_left (by simpa using z),getElem?_map,getElem?_eq_getElem z]at hi
      simp at hi
      subst hi
      obtain⟨v,g1,g2⟩:=hr'.get (getElem?_eq_getElem z)
      refine⟨v,?_,rfl,g2⟩
      unfold start
      rw[map_cons,cons_append,getElem?_cons_succ,getElem?_append_left (by simp;lia),getElem?_map,g1]
      rfl
     .rw [getElem?_append_right (by simpa using z)]at hi
      have:=mem_of_getElem? hi
      rw[mem_replicate]at this
      cases this.2
   .unfold startIO at hi
    cases i with
    |zero=>simp at hi
    |succ i=>
     rw[getElem?_cons_succ]at hi
     by_cases z:i<ds.length
     .rw [getElem?_append_left (by simpa using z),getElem?_map]at hi
      simp at hi
     .rw [getElem?_append_right (by simpa using z)]at hi
      have:=mem_of_getElem? hi
      rw[mem_replicate]at this
      cases this.2
   .split
    .exact hnd
    .exact nodup_nil
   .split at y1
    .split at y2
     .lia
     .cases y2
    .cases y1
   .split at hb
    .refine ⟨hnf b hb,if_pos hb,?_⟩
     rcases mem_cons.mp hb with y |y
     .rw [y];exact⟨_,ha,rfl⟩
     .exact hB.isl b y
    .cases hb
  refine⟨t,h1,h2 F _ F H (start N (V.ref a::rest)) (startIO N a ts ds) {nx:=λG=>∃ts',G[0]?=some (some (.own (.rt a ts')))/\Pr ts',rt:=λ_=>False} _ ⟨_,er⟩ ⟨λF' H' Y G e p=>?_,λ_ _ _ _ _ z=>z.elim,λ_ _ _ _ _ z=>z.elim,λ_ _ _ _ _ _ z=>z.elim⟩ (h3 a ts ds Pr hsp)⟩
  obtain⟨A',e⟩:=e
  obtain⟨ts',h0,hp⟩:=p
  obtain⟨v,hv,vs',B',rfl,eA,g1,g2⟩:=e.own 0 _ h0
  have hn':=e.nod 0
  rw[eA]at hn'
  refine hq ts' F' H' vs' B' hp e.ext.ff e.ext.fh (λb o y z=>?_) (λb o y1 y2 y3 y4=>?_) g1 g2 hn' (λb hb=>?_)
  .exact e.ext.hh b o (by rw[if_neg y];exact z)
  .exact e.ext.no b o y1 (by rw[if_neg y4];exact y2) y3
  .obtain ⟨z1,z2,_⟩:=e.new 0 b (by rw[eA];exact hb)
   refine⟨z1,?_⟩
   by_cases q:b∈a::B
   .exact .inl q
   .rw [if_neg q]at z2;exact .inr z2
end
section
variable {K:Frag}{X:Cx}
structure DefAtD (K:Frag) (mg:Str->Option Value) (x:Str) (st:Stmt) (f:Addr) (fd:FuncData) (T:Addr) (items:Array Value):Prop where
 ex:∃(oc:Value) (od:Option Addr) (kV doc pm:Value) (an:Option Addr) (cdv ct:Value) (osl:Array (Option Value)),
  fd=fnOf x x (defArgs st) (defBody st) (defScope st) (.ref T) kV doc pm an cdv ct/\K.lookup f=some ⟨oc,od,.func fd,osl⟩/\codeIn K cdv x=true
 tup:∃o n,K.lookup T=some o/\o.data = .seq items n
 kp:keepIn K (.ref f)=true
 here:mg x=some (.ref f)
structure CalD (P:Program) (w:World) (K:Frag) (mg:Str->Option Value) (base:Heap) (x:Str) (k:Nat) (ps:List Str) (sp:Sp) (dvs:List V):Prop where
 ex:∃f fd ds,FnOk P w K mg base CX0 k f fd ps sp/\mg x=some (.ref f)/\keepIn K (.ref f)=true/\Binds K fd ps []/\Binds K fd ps ds/\Vals dvs ds
theorem CalVD.of {P:Program}{w:World}{mg:Str->Option Value}{base:Heap}{x:Str}{st:Stmt}{f T:Addr}{items:Array Value}{fd:FuncData}{N ps:List Str}{k n:Nat}{sp:DSp}{ds:List Value}{dvs:List V}(Df:DefAtD K mg x st f fd T items)(S:FnScope N ps (defScope st))
  (hb:∀(kV doc pm:Value) (an:Option Addr) (cdv ct:Value) (us:List Value),us.length=ps.length->∃k,bindArgs (fnOf x x (defArgs st) (defBody st) (defScope st) (.ref T) kV doc pm an cdv ct) ⟨us,[]⟩=seqItems? (.ref T) >>= k/\k (some items)=pure (ps.zip us))
  (hb2:∀(kV doc pm:Value) (an:Option Addr) (cdv ct:Value) (us:List Value),(us++ds).length=ps.length->∃k,bindArgs (fnOf x x (defArgs st) (defBody st) (defScope st) (.ref T) kV doc pm an cdv ct) ⟨us,[]⟩=seqItems? (.ref T) >>= k/\k (some items)=pure (ps.zip (us++ds)))
  (hv:Vals dvs ds) (hn:n=ps.length)
  (hbody:∀(cdv:Value) (A:Around) (outer:List Env) (s:Shared) (H:Hp) (E:XK),Room k (A.deeper (envOfC x (defScope st) s.heap.objs.size f cdv))->
   ∃t T,PSs (cxOf CX0 P w K mg base N x (defScope st) f cdv A outer s H E).nox (defBody st) t/\SimS K t T/\∀ds Pr,sp ds Pr->T {nx:=λ_=>Pr (.fz .non),rt:=Pr} (startV N ds)):CalD P w K mg base x (k+1) ps (spV K n sp) dvs:=by
 obtain⟨oc,od,kV,doc,pm,an,cdv,ct,osl,rfl,lk,hcd⟩:=Df.ex
 obtain⟨o,m,ht,hs⟩:=Df.tup
 refine⟨f,_,ds,fn_of lk hcd S (λvs H Q E h=>by rw[<- hn];exact h.1) (λA outer s H vs Q E hr h=>?_),Df.here,Df.kp,λs us KX hl=>?_,λs us KX hl=>?_,hv⟩
 .obtain ⟨_,F,ds',Pr,hs',hr',hsp,hq⟩:=h
  obtain⟨t,T',h1,h2,h3⟩:=hbody cdv A outer s H E hr
  refine⟨t,h1.nox,h2 F H F H (start N vs) (startV N ds') {nx:=λ_=>Pr (.fz .non),rt:=Pr} _ ⟨_,startV_er hs' hr'⟩ ⟨λF' H' Y G e p=>?_,λ_ _ _ _ _ z=>z.elim,λ_ _ _ _ _ z=>z.elim,λF' H' r v x n p=>hq r v F' H' p x n⟩ (h3 ds' Pr hsp)⟩
  exact hq _ _ F' H' p e.ext (.fz rfl)
 .rw [append_nil]at hl ⊢
  obtain⟨k',e1,e2⟩:=hb kV doc pm an cdv ct us hl
  exact binds_K KX rfl ht hs e1 e2
 .obtain ⟨k',e1,e2⟩:=hb2 kV doc pm an cdv ct us hl
  exact binds_K KX rfl ht hs e1 e2
end
section
variable {X:Cx}{K:Frag}{tg:Expr}
end
section
variable {K:Frag}{X:Cx}
end
end L2
namespace Att
open PySem PySem.W PySem.Calls PyProof.Rows
end Att
namespace L2
open PySem PySem.Spec PyProof.Rows
abbrev DMV:=List OV->List D->(OV->Prop)->Prop
def startMV (N:List Str)(ts:List OV)(ds:List D):Dst:=some (.own (.nl ts))::(ds.map (λd=>some (.own (.fz d)))++List.replicate (N.length-(ds.length+1)) none)
section
variable {X:Cx}{K:Frag}{mg:Str->Option Value}
end
section
variable {X:Cx}{K:Frag}
end
section
variable {K:Frag}{mg:Str->Option Value}
def spMV (K:Frag)(n:Nat)(sp:DMV):Sp:=spL n λvs H Q=>∃F a ts vs0 B rest ds P,vs=V.ref a::rest/\Same F H/\H a=some (.lst vs0)/\RepOs K F H ts vs0 B/\(a::B).Nodup/\(∀b∈a::B,F b=none)/\Reps K F ds rest/\sp ts ds P/\
 ∀r v F' H',P r->Ext F (λb=>if b∈a::B then none else H b) F' H'->RepN K (λb=>if b∈a::B then none else H b) F' H' r v->Q v H'
theorem CalMV.of {P:Program}{w:World}{base:Heap}{x:Str}{st:Stmt}{f:Addr}{fd:FuncData}{N ps:List Str}{k n:Nat}{sp:DMV}(Df:DefAt K mg x st f fd)(S:FnScope N ps (defScope st))
  (hb:∀(kV doc pm:Value) (an:Option Addr) (cdv ct:Value) (us:List Value),us.length=ps.length->bindArgs (fnOf x x (defArgs st) (defBody st) (defScope st) .none kV doc pm an cdv ct) ⟨us,[]⟩=pure (ps.zip us)) (hn:n=ps.length)
  (hbody:∀(cdv:Value) (A:Around) (outer:List Env) (s:Shared) (H:Hp) (E:XK),Room k (A.deeper (envOfC x (defScope st) s.heap.objs.size f cdv))->
   ∃t T,PSs (cxOf CX0 P w K mg base N x (defScope st) f cdv A outer s H E).nox (defBody st) t/\SimS K t T/\∀ts ds Pr,sp ts ds Pr->T {nx:=λ_=>Pr (.fz .non),rt:=Pr} (startMV N ts ds)):Cal P w K mg base x (k+1) ps (spMV K n sp):=
 Cal.of Df S hb (λvs H Q E h=>by rw[<- hn];exact h.1) λcdv A outer s H vs Q E hr h=>by
  obtain⟨_,F,a,ts,vs0,B,rest,ds,Pr,rfl,hs,ha,hB,hnd,hnf,hr',hsp,hq⟩:=h
  obtain⟨t,T,h1,h2,h3⟩:=hbody cdv A outer s H E hr
  have hl:=hr'.length
  have er : ER K F (λb=>if b∈a::B then none else H b) F H (start N (V.ref a::rest)) (startMV N ts ds) (λj=>if j=0 then a::B else []):=by
   refine⟨by simp[start,startMV,hl],⟨Same.refl _,λb o z=>?_,hs,λ_ _ z _ _=>z⟩,λi t hi=>?_,λi d hi=>?_,λj=>?_,λj k b hjk y1 y2=>?_,λj b hb=>?_⟩
   .split at z
    .cases z
    .exact z
   .unfold startMV at hi
    cases i with
    |zero=>
     simp at hi
     subst hi
     exact⟨.ref a,rfl,a,vs0,B,rfl,rfl,ha,hB⟩
    |succ i=>
     rw[getElem?_cons_succ]at hi
     by_cases z:i<ds.length
     .rw [getElem?_append_left (by simpa using z),getElem?_map,getElem?_eq_getElem z]at hi
      simp at hi
      subst hi
      obtain⟨v,g1,g2⟩:=hr'.get (getElem?_eq_getElem z)
      refine⟨v,?_,rfl,g2⟩
      unfold start
      rw[map_cons,cons_append,getElem?_cons_succ,getElem?_append_left (by simp;lia),getElem?_map,g1]
      rfl
     .rw [getElem?_append_right (by simpa using z)]at hi
      have:=mem_of_getElem? hi
      rw[mem_replicate]at this
      cases this.2
   .unfold startMV at hi
    cases i with
    |zero=>simp at hi
    |succ i=>
     rw[getElem?_cons_succ]at hi
     by_cases z:i<ds.length
     .rw [getElem?_append_left (by simpa using z),getElem?_map]at hi
      simp at hi
     .rw [getElem?_append_right (by simpa using z)]at hi
      have:=mem_of_getElem? hi
      rw[mem_replicate]at this
      cases this.2
   .split
    .exact hnd
    .exact nodup_nil
   .split at y1
    .split at y2
     .lia
     .cases y2
    .cases y1
   .split at hb
    .refine ⟨hnf b hb,if_pos hb,?_⟩
     rcases mem_cons.mp hb with y |y
     .rw [y];exact⟨_,ha,rfl⟩
     .exact hB.isl b y
    .cases hb
  refine⟨t,h1,h2 F _ F H (start N (V.ref a::rest)) (startMV N ts ds) {nx:=λ_=>Pr (.fz .non),rt:=Pr} _ ⟨_,er⟩ ⟨λF' H' Y G e p=>?_,λ_ _ _ _ _ z=>z.elim,λ_ _ _ _ _ z=>z.elim,λF' H' r v x n p=>hq r v F' H' p x n⟩ (h3 ts ds Pr hsp)⟩
  exact hq _ _ F' H' p e.ext (.fz rfl)
end
section
variable {X:Cx}{K:Frag}
end
section
variable {X:Cx}{K:Frag}
end
section
variable {X:Cx}{K:Frag}{mg:Str->Option Value}
end
def dRep1 (Eo:DO)(Eb:DE):DO:=λG P=>Eo G λr=>match r with
 | .nl [.fz d]=>Eb G λy=>match y with
  | .int k=>(0<=k/\k<=1000000)/\P (.nl (List.replicate k.toNat (.fz d)))
  |_=>False
 |_=>False
section
variable {X:Cx}{K:Frag}{mg:Str->Option Value}
theorem Reps.rep (h:Rep K F d v): ∀n:Nat,Reps K F (List.replicate n d) (List.replicate n v)
 | 0=>rfl
 |n+1=>⟨v,List.replicate n v,rfl,h,Reps.rep h n⟩
theorem sO_rep1 (ha:SimO K ta Eo)(hb:SimB K tb Eb): SimO K (tOp rRep ta tb) (dRep1 Eo Eb):=λF0 H0 F H Y G P Q e w q=>
 ha F0 H0 F H Y G _ _ e w λr v F1 H1 w1 x1 r1=>by
  split at w1
  .rename_i d
   obtain⟨A0,⟨p,vs,B,rfl,rfl,hp,hB⟩,a2,a3⟩:=r1
   obtain⟨v0,r0,B1,C,rfl,rfl,⟨_,rd⟩,hC,_⟩:=hB
   subst hC
   refine hb F0 H0 F1 H1 Y G _ _ (e.on x1) w1 λy u F2 H2 w2 x2 r2=>?_
   split at w2
   .rename_i k
    obtain⟨⟨k0,k1⟩,pr⟩:=w2
    have x12:=x1.trans x2
    cases r2
    refine⟨p,k,[v0],rfl,rfl,x2.hh _ _ hp,by lia,by lia,sz_le (by simp;omega),λl l0=>?_⟩
    have ef:(List.replicate k.toNat [v0]).flatten=List.replicate k.toNat v0:=List.flatten_replicate_singleton
    rw[ef]
    have em:(List.replicate k.toNat d).map OV.fz=List.replicate k.toNat (OV.fz d):=List.map_replicate
    refine q _ _ F2 _ pr (x12.trans (Ext.grow x2.fh (Same.new l0))) ?_
    rw[<- em]
    exact RepN.list (x12.hh.free l0) (x2.fh.free l0) upd_same (Reps.rep (rd.mono x2.ff) _)
   .exact w2.elim
  .exact w1.elim
end
section
variable {prog:Program}{w:World}{A:Around}{E:Value->Shared->Prop}{s:Shared}
end
section
variable {X:Cx}{K:Frag}{tg:Expr}
end
section
variable {X:Cx}{K:Frag}
end
section
variable {prog:Program}{w:World}{A:Around}{E:Value->Shared->Prop}{s:Shared}
end
section
variable {X:Cx}{K:Frag}{mg:Str->Option Value}
end
section
variable {X:Cx}{K:Frag}{mg:Str->Option Value}
theorem ER.drop {F0 H0 F H:Hp}{Y:St}{G:Dst}{A:Nat->List Addr}(e:ER K F0 H0 F H Y G A)(i:Nat):ER K F0 H0 F H Y (G.set i none) (λj=>if j=i then [] else A j):=by
 have off:∀(j:Nat) (s:Sl),(G.set i none)[j]?=some (some s)->j≠i/\G[j]?=some (some s):=λj s hj=>by
  by_cases z:j=i
  .subst z
   have hi:j<G.length:=by
    have:=(List.getElem?_eq_some_iff.mp hj).1
    rwa[length_set]at this
   rw[getElem?_set_self hi]at hj
   cases hj
  .rw [getElem?_set_ne (Ne.symm z)]at hj
   exact⟨z,hj⟩
 refine⟨by simp[e.len],e.ext,λj t hj=>?_,λj d hj=>e.bw j d (off j _ hj).2,λj=>?_,λj k a hjk h1 h2=>?_,λj a ha=>?_⟩
 .obtain ⟨z,hj⟩:=off j _ hj
  rw[if_neg z]
  exact e.own j t hj
 .split
  .exact nodup_nil
  .exact e.nod j
 .split at h1
  .cases h1
  .split at h2
   .cases h2
   .exact e.dis j k a hjk h1 h2
 .split at ha
  .cases ha
  .exact e.new j a ha
theorem starEach_ns {e:Expr}{rest:List Expr}{env:Env}(h:∀a p,e≠.Starred a p):starEach (e::rest) env=(false,eval e env)::starEach rest env:=by
 rw[starEach]
 exact h
def TupC (K:Frag)(mg:Str->Option Value)(x:Str)(d:D):Prop:=∃a,mg x=some (.ref a)/\∀F,Rep K F d (.ref a)
def tGl (K:Frag)(d:D):TE:=λ_ H Q=>∀v,(∀F,Rep K F d v)->Q v H
theorem pe_globT (hg:Gl X x)(hm:TupC X.K X.mg x d)(hd:(x==("__debug__":Str))=false:=by decide): PE X (.Name x pos) (tGl X.K d):=by
 intro pins s Y H Q I h
 obtain⟨a,e,r⟩:=hm
 exact pe_glob (v:=.ref a) hg e rfl hd pins s Y H Q I (h _ r)
theorem pe_globS (hg:Gl X x)(hm:∃t,X.mg x=some (.str z t))(hd:(x==("__debug__":Str))=false:=by decide): PE X (.Name x pos) (tC (.str z)):=by
 obtain⟨t,e⟩:=hm
 exact pe_glob hg e ⟨t,rfl⟩ hd
theorem sF_gl:SimF K (tGl K d) (dC d):=λF0 H0 F H Y G P Q e w q=>λv r=>q d v F H w (Ext.refl e.ext.fh) (r F)
end
open PySem PySem.Spec PyProof.Rows PyProof.V PySem.W
section
variable {P:Program}{w:World}{H:Hp}{h:Heap}{a:Addr}{o:HO}
theorem ObjOk.at:∀{o:HO},ObjOk P w H h a o->∃u,h.get? a=some u
 | .lst _,x=>by obtain⟨_,_,_,_,e⟩:=x;exact⟨_,e⟩
 | .tup _,x=>by obtain⟨_,_,_,ob,e,_⟩:=x;exact⟨_,e⟩
 | .dK _,x=>by obtain⟨_,_,_,_,o,_,_,e,_⟩:=x;exact⟨_,e⟩
 | .dT _,x=>by obtain⟨_,_,_,_,o,_,_,e,_⟩:=x;exact⟨_,e⟩
 | .set _ _,x=>by obtain⟨o,_,_,_,e,_⟩:=x;exact⟨_,e⟩
 | .ins _ _ _,x=>by obtain⟨_,_,_,e,_⟩:=x;exact⟨_,e⟩
 | .own _,x=>x
 | .xd _,x=>by obtain⟨_,⟨od,_,_,e,_⟩,_⟩:=x;exact⟨_,e⟩
 | .rng _ _,x=>by obtain⟨_,_,_,e⟩:=x;exact⟨_,e⟩
 | .frz _ _,x=>⟨_,x.1⟩
 | .tbl _,x=>⟨_,x⟩
 | .cod _ _,x=>by obtain⟨_,e,_⟩:=x;exact⟨_,e⟩
 | .met _ _,x=>⟨_,x⟩
 | .ext _,x=>x.2.1
end
def CXE (P:Program)(w:World):CXT:=λouter H s E e s'=>∃(a C:Addr) (a0:Value) (B:Heap) (H':Hp),e = .ref a/\E (.ref C) none H'/\Heap.FlyingW B outer a (.ref C) a0 s'.heap/\
 (∀b o,s'.heap.get? b=some o->b∉frs outer->((∃o0,s.heap.get? b=some o0)∨∃u,H' b=some u)->B.get? b=some o)/\Un (frs outer) [] H H' s.heap s'.heap/\HOk P w H' s'.heap/\AllBare s'.gens/\s'.os=s.os/\H' a=none
section
variable {P:Program}{w:World}{K:Frag}{mg:Str->Option Value}{base:Heap}{N:List Str}{qual:Str}{scope:Scope}{f:Addr}{cd:Value}{A:Around}{outer:List Env}{s:Shared}{H:Hp}{E:XK}
theorem leave_core {pins:List (Addr×Obj)}{Y:St}{H1 H':Hp}{s1 s':Shared}{a C0:Addr}{a0:Value}{B h7:Heap}{Z:List Addr}(I:Inv (cxOf (CXE P w) P w K mg base N qual scope f cd A outer s H E) pins Y H1 s1)
  (hE:E (.ref C0) none H') (z1:Heap.FlyingW B outer a (.ref C0) a0 h7)
  (agree:∀b o,s'.heap.get? b=some o->b∉frs (envOfC qual scope s.heap.objs.size f cd::outer)->b∉Z->((∃o0,s1.heap.get? b=some o0)∨∃u,H' b=some u)->B.get? b=some o)
  (slotF:∀b o,b∈frs (envOfC qual scope s.heap.objs.size f cd::outer)->s'.heap.get? b=some o->∃sl,h7.get? b=some {o with slots:=sl})
  (hZ:∀b∈Z,s.heap.objs.size<=b/\H' b=none)
  (un:Un (frs (envOfC qual scope s.heap.objs.size f cd::outer)) [] H1 H' s1.heap s'.heap) (hok:HOk P w H' s'.heap) (bare:AllBare s'.gens) (hos:s'.os=s1.os) (hna:H' a=none):
  CXE P w outer H s E (.ref a) {s' with heap:=h7}:=by
 have hbase:Un (frs outer) [] H H1 s.heap s1.heap:=I.base
 have sup:∀b,b∈frs outer->b∈frs (envOfC qual scope s.heap.objs.size f cd::outer):=λb hb=>by
  obtain⟨e,he,hf⟩:=mem_filterMap.mp hb
  exact mem_filterMap.mpr ⟨e,mem_cons_of_mem _ he,hf⟩
 have old:∀b o,s.heap.get? b=some o->b∉frs outer->b∉frs (envOfC qual scope s.heap.objs.size f cd::outer):=λb o q hb z=>by
  obtain⟨e,he,hf⟩:=mem_filterMap.mp z
  rcases mem_cons.mp he with rfl |he
  .rw [<- Option.some.inj hf]at q;exact absurd (lt_size q) (lt_irrefl _)
  .exact hb (mem_filterMap.mpr ⟨e,he,hf⟩)
 have hu:∀b u,H' b=some u->b∉frs (envOfC qual scope s.heap.objs.size f cd::outer)/\b∉Z:=λb u e=>by
  refine⟨λz=>?_,λz=>by rw[(hZ b z).2]at e;cases e⟩
  obtain⟨_,o,ho,_⟩:=I.stack.mem z
  rw[un.free b o ho (I.stkFree b z) (by simp)]at e;cases e
 have lt:∀b o,s.heap.get? b=some o->b∉Z:=λb o q z=>absurd (lt_size q) (not_lt.mpr (hZ b z).1)
 refine⟨a,C0,a0,B,H',rfl,hE,z1,λb o q hb hc=>?_,⟨λb o q n hb hx=>?_,λb o q n hb hx=>?_,λb o q n hx=>?_,λb o q hx=>?_,λb xs e=>un.tups b xs (hbase.tups b xs e),λb o u e=>un.frzs b o u (hbase.frzs b o u e),λb ps e=>?_⟩,λb u e=>?_,bare,hos.trans I.os,hna⟩
 .have key:∃o2,B.get? b=some o2:=by
   rcases hc with⟨o0,q0⟩ | ⟨u,q0⟩
   .obtain ⟨o1,q1⟩:=hbase.there b o0 q0 (by simp)
    obtain⟨o2,q2⟩:=un.there b o1 q1 (by simp)
    exact⟨o2,agree b o2 q2 (old b o0 q0 hb) (lt b o0 q0) (.inl ⟨o1,q1⟩)⟩
   .obtain ⟨o2,q2⟩:=(hok b u q0).at
    exact⟨o2,agree b o2 q2 (hu b u q0).1 (hu b u q0).2 (.inr ⟨u,q0⟩)⟩
  obtain⟨o2,q2⟩:=key
  have:=z1.1 b o2 q2
  rw[q]at this;cases this
  exact q2
 .have q1:=hbase.keep b o q n hb hx
  exact z1.1 b o (agree b o (un.keep b o q1 (hbase.free b o q n hx) (old b o q hb) (by simp)) (old b o q hb) (lt b o q) (.inl ⟨o,q1⟩))
 .obtain ⟨sl,q1⟩:=hbase.slot b o q n hb hx
  obtain⟨sl2,q2⟩:=un.slot b _ q1 (hbase.free b o q n hx) (sup b hb) (by simp)
  obtain⟨sl3,q3⟩:=slotF b _ (sup b hb) q2
  exact⟨sl3,q3⟩
 .obtain ⟨o1,q1⟩:=hbase.there b o q hx
  exact un.free b o1 q1 (hbase.free b o q n hx) (by simp)
 .obtain ⟨o1,q1⟩:=hbase.there b o q hx
  obtain⟨o2,q2⟩:=un.there b o1 q1 (by simp)
  by_cases hb:b∈frs (envOfC qual scope s.heap.objs.size f cd::outer)
  .obtain ⟨sl,q3⟩:=slotF b o2 hb q2
   exact⟨_,q3⟩
  .exact ⟨_,z1.1 _ _ (agree b o2 q2 hb (lt b o q) (.inl ⟨o1,q1⟩))⟩
 .obtain ⟨more,e1⟩:=hbase.tbls b ps e
  obtain⟨more2,e2⟩:=un.tbls b _ e1
  exact⟨more++more2,by rw[e2,Array.append_assoc]⟩
 .refine (hok b u e).stay (λc v hc q=>?_) (λ_ q=>q) λ_ _ q _=>q
  have hcu:∃u,H' c=some u:=by
   rcases hc with rfl |hc
   .exact ⟨_,e⟩
   .exact ⟨_,hc⟩
  obtain⟨u',hu'⟩:=hcu
  exact z1.1 _ _ (agree c v q (hu c u' hu').1 (hu c u' hu').2 (.inr ⟨u',hu'⟩))
theorem raise_leaves {pins:List (Addr×Obj)}{Y:St}{H1:Hp}{s1:Shared}{C a:Addr}{args:List Value}{h2:Heap}(I:Inv (cxOf (CXE P w) P w K mg base N qual scope f cd A outer s H E) pins Y H1 s1)(hx:Heap.MadeExcOf s1.heap h2 a (.ref C) args)
  (hE:E (.ref C) none H1):(cxOf (CXE P w) P w K mg base N qual scope f cd A outer s H E).xe (.ref a) {s1 with heap:=h2}:=by
 refine wpAny_leaves_madeW (base:=hideAll s1.heap (frs (envOfC qual scope s.heap.objs.size f cd::outer))) I.ok.frames rfl (λb o q=>of_hideAll _ q) (PySem.W.funFrames_hide I.stack λe he b hb=>mem_filterMap.mpr ⟨e,he,hb⟩) hx λh' t x1 x2 x3 x4=>?_
 refine leave_core (s':=s1) (Z:=[]) I hE x1 (λb o q hb _ _=>hideAll_get _ q hb) (λb o hb q=>?_) (λ_ z=>by cases z) Un.refl I.hok I.bare rfl ?_
 .obtain ⟨_,o',ho',hd⟩:=I.stack.mem hb
  rw[q]at ho';cases ho'
  exact x4 b o (hx.keeps b o q) hd
 .cases q:H1 a with
  |none=>rfl
  |some u=>
   obtain⟨o,ho⟩:=(I.hok a u q).at
   rw[hx.new]at ho;cases ho
def tRaise (tm:TE)(EX:Hp->Prop):TS:=λ_ Y H=>tm Y H λx H1=>[x].length<=sizeLine/\EX H1
theorem ps_raise (hg:Gl (cxOf (CXE P w) P w K mg base N qual scope f cd A outer s H E) x)(O:OwnCls x C bmB newId mg base)(FB:ExcBaseFacts B newId initId bmB)
  (hh:(A.deeper (envOfC qual scope s.heap.objs.size f cd)).handled=none) (he:PE (cxOf (CXE P w) P w K mg base N qual scope f cd A outer s H E) e₀ tm) (hd:(x==("__debug__":Str))=false:=by decide)
  (hs:starEach [e₀] (envOfC qual scope s.heap.objs.size f cd)=[(false,eval e₀ (envOfC qual scope s.heap.objs.size f cd))]:=by rfl):
  PS (cxOf (CXE P w) P w K mg base N qual scope f cd A outer s H E) (.Raise (some (.Call (.Name x np) [e₀] [] cpos)) none pos) (tRaise tm λH'=>E (.ref C) none H'):=by
 intro pins s1 Y H1 D I h
 obtain⟨tl,N',nm,q,bs,hdct,sn,sub,ab,col,dd,k0,k1,k2,k3,k5,mN,hC,hN,hni,T⟩:=O.obj
 refine wpAny_Raise_call_subT (nm:=nm) (q:=q) (N:=N') (bs:=bs) (hdct:=hdct) (sn:=sn) (sub:=sub) (ab:=ab) (col:=col) (dd:=dd) (k0:=k0) (k1:=k1) (k2:=k2) (k3:=k3) (k5:=k5)
  FB (T.hasType FB.hasBase) hh ?_ hni (ld_glob I hg O.bound ⟨rfl,?_⟩ hd)
 .show (backTo cpos (starEach [e₀] (envOfC qual scope s.heap.objs.size f cd))).any (·.1)=false
  rw[hs];rfl
 .have ha:=(pa_cons he pa_nil hs) cpos pins s1 Y H1 (λvs H2=>vs.length<=sizeLine/\E (.ref C) none H2) I h
  change wpAny _ _ (spliced (backTo cpos (starEach [e₀] (envOfC qual scope s.heap.objs.size f cd)))) _ _ s1 at ha
  show wpAny _ _ (evalArgs (.ref C) true (backTo cpos (starEach [e₀] (envOfC qual scope s.heap.objs.size f cd))) []) _ _ s1
  rw[hs]at ha ⊢
  refine Calls.evalArgs_plain (wpAny_mono ha (λus s2 h2=>?_) λ_ _ y=>y)
  obtain⟨vs,H2,I2,r,hl,q2⟩:=h2
  refine⟨rfl,?_,I2.bk _ _ hC,hN.keeps I2.bk,T.keeps I2.bk,λh' e hm=>raise_leaves I2 hm q2⟩
  rw[<- r.length];exact hl
end
abbrev Cx.hdl (X:Cx)(a:Addr):Cx:={X with A:=X.A.mark (some (.ref a)),calm:=false,xe:=λ_ _=>False}
section
variable {X:Cx}{pins:List (Addr×Obj)}{Y:St}{H:Hp}{s:Shared}
theorem Inv.hdl (I:Inv X pins Y H s)(a:Addr): Inv (X.hdl a) pins Y H s:=
 ⟨⟨I.ok.mod,I.ok.kind,I.ok.glob,I.ok.blt,I.ok.above,I.ok.inj,I.ok.has,I.ok.cab,(λz=>by cases z),I.ok.frames,I.ok.stk,I.ok.exf,I.ok.bs,I.ok.bsz,I.ok.noex,I.ok.exfs,I.ok.funs,I.ok.frf⟩,I.os,I.bare,I.base,I.loc,I.cell,I.free,I.freeC,I.pin,I.hok,I.len⟩
theorem Inv.unhdl (ok:X.Ok)(I:Inv (X.hdl a) pins Y H s): Inv X pins Y H s:=⟨ok,I.os,I.bare,I.base,I.loc,I.cell,I.free,I.freeC,I.pin,I.hok,I.len⟩
theorem Inv.goes {m:Str->Option Value}(I:Inv X pins Y H s)(hN:X.N.Nodup)(hi:X.N[i]?=some n)(hl:∀(j:Nat) (x:Str) (w:V),X.N[j]?=some x->Y[j]?=some (some w)->Vis X.env.scope x->∃u,RelV w u/\Look X.env s.heap m x u)
  (hn:h'.Ns X.env.locals (λx=>if x=n then v else m x)) (hs:Heap.SameBut X.env.locals s.heap h'): Inv X pins (Y.set i none) H {s with heap:=h',toks:=tk}:=by
 have cne:=I.cne
 have lt:∀{b o},X.s₀.heap.get? b=some o->b≠X.env.locals:=λ{b o} e=>ne_of_lt (lt_of_lt_of_le (lt_size e) I.ok.above)
 refine⟨I.ok,I.os,I.bare,⟨λb o e n hb hx=>?_,λb o e n hb hx=>?_,I.base.free,λb o e hx=>?_,I.base.tups,I.base.frzs,I.base.tbls⟩,⟨_,hn,λj y v' e1 e2 e3=>?_⟩,λy c e=>?_,I.free,I.freeC,λp hp=>?_,λb ob e=>?_,by simpa using I.len⟩
 .exact (hs.2 b (lt e)).trans (I.base.keep b o e n hb hx)
 .obtain ⟨sl,e1⟩:=I.base.slot b o e n hb hx
  exact⟨sl,(hs.2 b (lt e)).trans e1⟩
 .obtain ⟨o',e1⟩:=I.base.there b o e hx
  exact⟨o',(hs.2 b (lt e)).trans e1⟩
 .by_cases hj:j=i
  .subst hj
   have hjl:j<Y.length:=by rw[I.len];exact (List.getElem?_eq_some_iff.mp hi).1
   rw[getElem?_set_self hjl]at e2
   cases e2
  .rw [getElem?_set_ne (Ne.symm hj)]at e2
   obtain⟨u',r',q⟩:=hl j y v' e1 e2 e3
   refine⟨u',r',?_⟩
   rcases q with⟨k,e⟩ | ⟨k,c,e,z⟩
   .refine .inl ⟨k,?_⟩
    have:y≠n:=λe=>hj (nodup_ix hN e1 (e▸hi))
    simp[this,e]
   .exact .inr ⟨k,c,e,z.sameBut hs (cne y c e)⟩
 .obtain ⟨w',z⟩:=I.cell y c e
  exact⟨w',z.sameBut hs (cne y c e)⟩
 .obtain ⟨e,n,ne,nf,d⟩:=I.pin p hp
  exact⟨(hs.2 p.1 ne).trans e,n,ne,nf,d⟩
 .refine (I.hok b ob e).stay (λc w' hc q=>(hs.2 c ?_).trans q) (λ_ q=>q) λ_ _ q _=>q
  rintro rfl
  have hf:=I.free
  rcases hc with rfl |hc
  .rw [hf]at e;cases e
  .rw [hf]at hc;cases hc
theorem Inv.caught {H':Hp}{s':Shared}{B:Heap}{a C:Addr}{a0:Value}{h6:Heap}(I:Inv X pins Y H s)(fl:Heap.FlyingW B X.stack a (.ref C) a0 s'.heap)
  (agree:∀b o,s'.heap.get? b=some o->b∉frs X.stack->((∃o0,s.heap.get? b=some o0)∨∃u,H' b=some u)->B.get? b=some o) (un:Un (frs X.stack) [] H H' s.heap s'.heap) (hok:HOk X.prog X.w H' s'.heap) (bare:AllBare s'.gens) (hos:s'.os=s.os) (hna:H' a=none)
  (fl6:Heap.FlyingW B X.stack a (.ref C) a0 h6) (sm:s'.heap.UpToSlots h6):Inv X pins Y (upd H' a (.ext (clsφ a (.ref C)))) {s' with heap:=h6}:=by
 have hfree:∀b∈frs X.stack,H' b=none:=λb hb=>by
  obtain⟨_,o,ho,_⟩:=I.stack.mem hb
  exact un.free b o ho (I.stkFree b hb) (by simp)
 have nonf:∀b∈frs X.stack,∀o,s'.heap.get? b=some o->∀vs,o.data≠.fields vs:=λb hb o q=>by
  obtain⟨_,o',ho',hd⟩:=fl.2.2.1.mem hb
  rw[q]at ho';cases ho';exact hd
 have keepB:∀b o,s'.heap.get? b=some o->b∉frs X.stack->((∃o0,s.heap.get? b=some o0)∨∃u,H' b=some u)->h6.get? b=some o:=λb o q hb hc=>fl6.1 b o (agree b o q hb hc)
 obtain⟨oe,ws,hoe,hoec,hoed,_⟩:=fl6.first
 have hsa:s.heap.get? a=none:=by
  cases q:s.heap.get? a with
  |none=>rfl
  |some o0=>
   obtain⟨o',q'⟩:=un.there a o0 q (by simp)
   by_cases hb:a∈frs X.stack
   .obtain ⟨oe',ws',he',_,hd',_⟩:=fl.first
    exact absurd hd' (nonf a hb oe' he' ws')
   .have:=agree a o' q' hb (.inl ⟨o0,q⟩)
    rw[fl.2.1]at this;cases this
 have ha:∀b u,H' b=some u->b≠a:=λb u e z=>by rw[z,hna]at e;cases e
 refine I.call' (ch:=[]) hos ⟨λb o q n hb hx=>?_,λb o q n hb hx=>?_,λb o q n hx=>?_,λb o q hx=>?_,λb xs e=>?_,λb o u e=>?_,λb ps e=>?_⟩ (λb u e=>?_) bare (λb z=>absurd z (by simp))
 .exact keepB b o (un.keep b o q n hb hx) hb (.inl ⟨o,q⟩)
 .obtain ⟨sl,q1⟩:=un.slot b o q n hb hx
  obtain⟨sl2,q2⟩:=sm b _ q1 (nonf b hb _ q1)
  exact⟨sl2,q2⟩
 .rw [upd_ne λz=>by rw[z,hsa]at q;cases q]
  exact un.free b o q n hx
 .obtain ⟨o',q1⟩:=un.there b o q hx
  by_cases hb:b∈frs X.stack
  .obtain ⟨sl2,q2⟩:=sm b _ q1 (nonf b hb _ q1)
   exact⟨_,q2⟩
  .exact ⟨_,keepB b o' q1 hb (.inl ⟨o,q⟩)⟩
 .have:=un.tups b xs e
  rw[upd_ne (ha b _ this)];exact this
 .have:=un.frzs b o u e
  rw[upd_ne (ha b _ this)];exact this
 .obtain ⟨more,this⟩:=un.tbls b ps e
  exact⟨more,by rw[upd_ne (ha b _ this)];exact this⟩
 .by_cases hb:b=a
  .subst hb
   rw[upd_same]at e
   cases e
   exact⟨⟨oe,hoe,hoec⟩,⟨oe,hoe⟩,λh1 h2 ⟨o,e1,e2⟩ k=>⟨o,k o e1,e2⟩⟩
  .rw [upd_ne hb]at e
   refine (hok b u e).stay (λc v hc q=>?_) (λc q=>by rw[upd_ne (ha c _ q)];exact q) λc xs q _=>by rw[upd_ne (ha c _ q)];exact q
   have hcu:∃u,H' c=some u:=by
    rcases hc with rfl |hc
    .exact ⟨_,e⟩
    .exact ⟨_,hc⟩
   exact keepB c v q (λz=>by obtain⟨u,hu⟩:=hcu;rw[hfree c z]at hu;cases hu) (.inr hcu)
end
structure CalX (P:Program) (w:World) (K:Frag) (mg:Str->Option Value) (base:Heap) (x:Str) (k:Nat) (ps:List Str) (sp:Sp):Prop where
 ex:∃f fd,FnOk P w K mg base (CXE P w) k f fd ps sp/\mg x=some (.ref f)/\keepIn K (.ref f)=true/\Binds K fd ps []
section
variable {X:Cx}
end
open PySem PySem.Spec PyProof.Rows
abbrev DMo:=List OV->List D->(List OV->Prop)->Prop
def sFSet (c:Str)(ns:List Str)(i j:Nat)(Eo:DO):DS:=λDe G=>match G[i]? with
 |some (some (.own (.ob o c' ns' ts)))=>c'=c/\ns'=ns/\j<ts.length/\Eo G λr=>De.nx (G.set i (some (.own (.ob o c ns (ts.set j r)))))
 |_=>False
def sFNew (c:Str)(ns:List Str)(i j:Nat)(Eo:DO):DS:=λDe G=>match G[i]? with
 |some (some (.own (.ob o c' ns' ts)))=>c'=c/\ns'=ns/\j=ts.length/\Eo G λr=>De.nx (G.set i (some (.own (.ob o c ns (ts++[r])))))
 |_=>False
def dMake (c:Str)(ns:List Str)(n:Nat)(sp:DMo)(As:DA):DO:=λG P=>As G λds=>ds.length+1=n/\sp [] ds λts=>P (.ob none c ns ts)
def startM (N:List Str)(c:Str)(ns:List Str)(a:Addr)(ts:List OV)(ds:List D):Dst:=some (.own (.ob (some a) c ns ts))::(ds.map (λd=>some (.own (.fz d)))++List.replicate (N.length-(ds.length+1)) none)
section
theorem putF_new:∀{ns:List Str} {vs:List V},ns.Nodup->ns[vs.length]?=some f->putF f u (ns.zip vs)=ns.zip (vs++[u])
 | [],_,_,h=>by simp at h
 |g::ns,[],nd,h=>by
  simp at h
  subst h
  simp[putF]
 |g::ns,v::vs,nd,h=>by
  have h':ns[vs.length]?=some f:=h
  obtain⟨n1,n2⟩:=nodup_cons.mp nd
  have hne:¬ g=f:=λz=>n1 (by rw[z];exact mem_of_getElem? h')
  simp only[List.zip_cons_cons,putF,if_neg hne,cons_append]
  rw[putF_new n2 h']
end
structure ClsV (K:Frag) (c:Str) (ns:List Str):Prop where
 ex:∃C,nsIn K mainGlobals c=some (some (.ref C))/\Cls K C/\(∀f∈ns,NoAttr K C f)
 nd:ns.Nodup
 few:ns.length<1000
structure MetAt (K:Frag) (c m q:Str) (st:Stmt) (f:Addr) (fd:FuncData):Prop where
 fn:Fun K m q st f fd
 cl:∃C,nsIn K mainGlobals c=some (some (.ref C))/\Cls K C/\Meth K C m f
structure CalM (P:Program) (w:World) (K:Frag) (mg:Str->Option Value) (base:Heap) (c m:Str) (k:Nat) (ps:List Str) (sp:Sp):Prop where
 ex:∃C f fd,nsIn K mainGlobals c=some (some (.ref C))/\Cls K C/\Meth K C m f/\FnOk P w K mg base CX0 k f fd ps sp/\Binds K fd ps []
structure MakAt (K:Frag) (mg:Str->Option Value) (c:Str) (f:Addr):Prop where
 cl:∃C,nsIn K mainGlobals c=some (some (.ref C))/\Mk K C f/\mg c=some (.ref C)
structure CalK (P:Program) (w:World) (K:Frag) (mg:Str->Option Value) (base:Heap) (c:Str) (k:Nat) (ps:List Str) (sp:Sp):Prop where
 ex:∃C f fd,nsIn K mainGlobals c=some (some (.ref C))/\Mk K C f/\mg c=some (.ref C)/\FnOk P w K mg base CX0 k f fd ps sp/\Binds K fd ps []
def tMakeN (K:Frag)(c:Str)(sp:Sp)(t:TA):TE:=λY H Q=>∃C,nsIn K mainGlobals c=some (some (.ref C))/\tMake C sp [] E0 t Y H Q
section
variable {X:Cx}{c m:Str}{k:Nat}{ps:List Str}{sp:Sp}{o e:Expr}{es:List Expr}{ta:TE}{t:TA}{p pos apos:Pos}
theorem pe_makN (C:CalK X.prog X.w X.K X.mg X.base c k ps sp)(hr:Room (k+1) X.A)(hg:Gl X c)(ha:PA X (e::es) t)
  (hdb:(c==("__debug__":Str))=false:=by decide) (he:starEach (e::es) X.env=(false,eval e X.env)::starEach es X.env:=by rfl) (hpl:(backTo pos (starEach es X.env)).any (·.1)=false:=by rfl):
  PE X (.Call (.Name c p) (e::es) [] pos) (tMakeN X.K c sp t):=by
 intro pins s Y H Q I ⟨C',hC',h⟩
 obtain⟨C,f,fd,hC,M,hm,F,hb⟩:=C.ex
 rw[hC]at hC'
 cases hC'
 exact pe_make M F hr hg hm hb .nil pass0 ha hdb he hpl pins s Y H Q I h
end
section
variable {K:Frag}{c f m:Str}{ns:List Str}{i j:Nat}{ta te:TE}{E:DE}{Eo:DO}
theorem ER.obj {A:Nat->List Addr}(e:ER K F0 H0 F H Y G A)(hv:Y[i]?=some (some (.ref a)))(eA:A i=a::dx::B)
  (h0:nsIn K mainGlobals c=some (some (.ref C))) (ho:∀a',o=some a'->a=a') (h1:H' a=some (.ins C dx (ns.zip vs'))) (h2:H' dx=some (.own a)) (hl:ts'.length<=ns.length) (h3:RepOs K F H' ts' vs' B') (nd:B'.Nodup)
  (hB:∀b∈B',b∈B∨(F b=none/\H0 b=none/\∀j,b∉A j)) (keep:∀b o,b∉A i->H b=some o->H' b=some o): EnvR K F0 H0 F H' Y (G.set i (some (.own (.ob o c ns ts')))):=by
 have hnd:=e.nod i
 rw[eA]at hnd
 obtain⟨n1,n2⟩:=nodup_cons.mp hnd
 obtain⟨n3,n4⟩:=nodup_cons.mp n2
 have inA:∀b,b∈a::dx::B'->b∈A i∨(F b=none/\H0 b=none/\∀j,b∉A j):=λb hb=>by
  rw[eA]
  rcases mem_cons.mp hb with z |z
  .exact .inl (by simp[z])
  .rcases mem_cons.mp z with z |z
   .exact .inl (by simp[z])
   .rcases hB b z with y |y
    .exact .inl (by simp[y])
    .exact .inr y
 have notB:∀b,b∈A i->b∉B->b∉B':=λb hb hn z=>by
  rcases hB b z with y |y
  .exact hn y
  .exact y.2.2 i hb
 refine e.change i hv (t':=.ob o c ns ts') (B:=a::dx::B') ⟨a,C,dx,vs',B',rfl,rfl,h0,ho,h1,h2,hl,h3⟩ ?_ ?_ ?_ keep
 .refine nodup_cons.mpr ⟨λz=>?_,nodup_cons.mpr ⟨λz=>?_,nd⟩⟩
  .rcases mem_cons.mp z with z |z
   .exact n1 (by simp[z])
   .exact notB a (by simp[eA]) (λy=>n1 (by simp[y])) z
  .exact notB dx (by simp[eA]) n3 z
 .intro b hb
  rcases inA b hb with z |z
  .exact ⟨(e.new i b z).1,(e.new i b z).2.1⟩
  .exact ⟨z.1,z.2.1⟩
 .intro j hj b hb z
  rcases inA b hb with y |y
  .exact e.dis j i b hj z y
  .exact y.2.2 j z
theorem sS_fnew (CV:ClsV K c ns)(hf:ns[j]?=some f)(h:SimO K te Eo): SimS K (sFld K (tVar i) te f) (sFNew c ns i j Eo):=λF0 H0 F H Y G De En e l w=>by
 obtain⟨A,e⟩:=e
 unfold sFNew at w
 split at w
 .rename_i o c' ns' ts hs
  obtain⟨rfl,rfl,hj,w⟩:=w
  obtain⟨v,hv,a,C,dx,vs,B,rfl,eA,h0,ho,h1,h2,hl,h3⟩:=e.own i _ hs
  obtain⟨C',hC',cl,na⟩:=CV.ex
  rw[h0]at hC'
  cases hC'
  refine h F0 H0 F H Y G _ _ ⟨A,e⟩ w λr u F1 H1 p x1 n=>?_
  obtain⟨C0,c1,c2,c3⟩:=n
  have e1:=e.on x1
  have hlen:=h3.length
  refine⟨_,hv,a,C,dx,_,rfl,x1.hh _ _ h1,cl,na f (mem_of_getElem? hf),?_,?_⟩
  .have:=CV.few
   rw[List.length_zip];lia
  have hf':=hf
  rw[hj,hlen]at hf'
  rw[putF_new CV.nd hf']
  have h31:RepOs K F1 H1 ts vs B:=h3.frame x1.ff λb _ xs z=>x1.hh _ _ z
  have hnd:=e.nod i
  rw[eA]at hnd
  obtain⟨n1,n2⟩:=nodup_cons.mp hnd
  obtain⟨n3,n4⟩:=nodup_cons.mp n2
  have hCA':∀j b,b∈C0->b∉A j:=λj b hb z=>by
   obtain⟨_,_,xs,q,_⟩:=e.new j b z
   rw[(c3 b hb).1]at q;cases q
  have hCA:=hCA' i
  have off:∀b,b∈B->b≠a:=λb hb z=>n1 (by rw[<- z];exact mem_cons_of_mem _ hb)
  have hlt:=(List.getElem?_eq_some_iff.mp hf').1
  have f4':RepOs K F1 (upd H1 a (.ins C dx (ns'.zip (vs++[u])))) (ts++[r]) (vs++[u]) (B++C0):=RepOs.append (h31.frame (Same.refl _) λb hb xs z=>upd_off (off b hb) z) (RepOs.one (c1.frame (Same.refl _) λb hb xs z=>upd_off (λy=>hCA b hb (by rw[eA,y];simp)) z))
  refine l.nx F1 _ Y _ (e1.obj hv eA h0 ho upd_same (upd_off (λz=>n1 (by rw[<- z];simp)) (x1.hh _ _ h2)) (by rw[length_append,length_singleton];lia) f4' (nodup_append.mpr ⟨n4,c2,λx hx y hy z=>hCA y hy (by rw[eA,<- z];simp[hx])⟩) (λb hb=>?_) λb o' hb z=>upd_off (λy=>hb (by rw[eA,y];simp)) z) p
  rcases mem_append.mp hb with z |z
  .exact .inl z
  .exact .inr ⟨(c3 b z).2,e.ext.hh.free (c3 b z).1,λj=>hCA' j b z⟩
 .exact w.elim
def spM (K:Frag)(n:Nat)(c:Str)(ns:List Str)(sp:DMo):Sp:=spL n λvs H Q=>∃F a C dx ts vs0 B rest ds P,vs=V.ref a::rest/\nsIn K mainGlobals c=some (some (.ref C))/\Same F H/\H a=some (.ins C dx (ns.zip vs0))/\H dx=some (.own a)/\ts.length<=ns.length/\RepOs K F H ts vs0 B/\
 (a::dx::B).Nodup/\(∀b∈a::dx::B,F b=none)/\Reps K F ds rest/\sp ts ds P/\
 ∀ts' F' H' dx' vs' B',P ts'->Same F F'->Same F' H'->(∀b o,b∉a::dx::B->H b=some o->H' b=some o)->(∀b o,F b=none->H b=some o->imm o=false->b∉a::dx::B->F' b=none)->H' a=some (.ins C dx' (ns.zip vs'))->H' dx'=some (.own a)->ts'.length<=ns.length->RepOs K F' H' ts' vs' B'->
  (a::dx'::B').Nodup->(∀b∈a::dx'::B',F' b=none/\(b∈a::dx::B∨H b=none))->Q .non H'
theorem sO_make (CV:ClsV K c ns)(ha:SimAF K a As): SimO K (tMakeN K c (spM K n c ns sp) a) (dMake c ns n sp As):=λF0 H0 F H Y G P Q e w q=>by
 obtain⟨C,hC,_⟩:=CV.ex
 refine⟨C,hC,ha F0 H0 F H Y G _ _ e w λds us F1 H1 w1 x1 r1=>λx dx hx hd hne=>?_⟩
 rw[append_nil]
 have s0:Same H1 (upd (upd H1 dx (.own x)) x (.ins C dx [])):=λb o z=>upd_off (λy=>by rw[y,hx]at z;cases z) (upd_off (λy=>by rw[y,hd]at z;cases z) z)
 refine⟨by rw[length_cons,<- r1.length];exact w1.1,F1,x,C,dx,[],[],[],us,ds,_,rfl,hC,x1.fh.trans s0,(by rw[List.zip_nil_right];exact upd_same),upd_off hne upd_same,zero_le _,⟨rfl,rfl⟩,?_,λb hb=>?_,r1,w1.2,?_⟩
 .simp only[nodup_cons,mem_cons,not_mem_nil,or_false,not_false_eq_true,nodup_nil,and_true]
  exact λz=>hne z.symm
 .rcases mem_cons.mp hb with z |z
  .rw [z];exact x1.fh.free hx
  .rw [mem_singleton.mp z];exact x1.fh.free hd
 intro ts' F' H' dx' vs' B' pt sF sH keep nofz hp' hd' hl' hB' nd' nw'
 have s1:∀b o,H1 b=some o->b∉x::dx::([]:List Addr):=λb o z y=>by
  rcases mem_cons.mp y with y |y
  .rw [y,hx]at z;cases z
  .rw [mem_singleton.mp y,hd]at z;cases z
 refine⟨rfl,q _ _ F' H' pt (x1.trans ⟨sF,λb o z=>keep b o (s1 b o z) (s0 _ _ z),sH,λb o z1 z2 z3=>nofz b o z1 (s0 _ _ z2) z3 (s1 b o z2)⟩) ⟨x::dx'::B',⟨x,C,dx',vs',B',rfl,rfl,hC,(λ_ z=>by cases z),hp',hd',hl',hB'⟩,nd',λb hb=>⟨?_,(nw' b hb).1⟩⟩⟩
 rcases (nw' b hb).2 with y |y
 .rcases mem_cons.mp y with y |y
  .rw [y];exact x1.hh.free hx
  .rw [mem_singleton.mp y];exact x1.hh.free hd
 .exact x1.hh.free (s0.free y)
end
section
variable {P:Program}{w:World}{K:Frag}{mg:Str->Option Value}{base:Heap}{c m q:Str}{ns:List Str}{st:Stmt}{f:Addr}{fd:FuncData}{N ps:List Str}{k n:Nat}
theorem okM_of (Fn:Fun K m q st f fd)(S:FnScope N ps (defScope st))(hn:n=ps.length)
  (hbody:∀(cdv:Value) (A:Around) (outer:List Env) (s:Shared) (H:Hp) (E:XK),Room k (A.deeper (envOfC q (defScope st) s.heap.objs.size f cdv))->
   ∃t T,PSs (cxOf CX0 P w K mg base N q (defScope st) f cdv A outer s H E).nox (defBody st) t/\SimS K t T/\∀(a:Addr) ts ds Pr,sp ts ds Pr->T {nx:=λG=>∃ts',G[0]?=some (some (.own (.ob (some a) c ns ts')))/\Pr ts',rt:=λ_=>False} (startM N c ns a ts ds)):
  FnOk P w K mg base CX0 (k+1) f fd ps (spM K n c ns sp):=
 Fn.ok S (λvs H Q E h=>by rw[<- hn];exact h.1) λcdv A outer s H vs Q E hr h=>by
  obtain⟨_,F,a,C,dx,ts,vs0,B,rest,ds,Pr,rfl,hC,hs,ha,hd,hlen,hB,hnd,hnf,hr',hsp,hq⟩:=h
  obtain⟨t,T,h1,h2,h3⟩:=hbody cdv A outer s H E hr
  have hl:=hr'.length
  have er : ER K F (λb=>if b∈a::dx::B then none else H b) F H (start N (V.ref a::rest)) (startM N c ns a ts ds) (λj=>if j=0 then a::dx::B else []):=by
   refine⟨by simp[start,startM,hl],⟨Same.refl _,λb o z=>?_,hs,λ_ _ z _ _=>z⟩,λi t hi=>?_,λi d hi=>?_,λj=>?_,λj k b hjk y1 y2=>?_,λj b hb=>?_⟩
   .split at z
    .cases z
    .exact z
   .unfold startM at hi
    cases i with
    |zero=>
     simp at hi
     subst hi
     exact⟨.ref a,rfl,a,C,dx,vs0,B,rfl,rfl,hC,(λ_ z=>Option.some.inj z),ha,hd,hlen,hB⟩
    |succ i=>
     rw[getElem?_cons_succ]at hi
     by_cases z:i<ds.length
     .rw [getElem?_append_left (by simpa using z),getElem?_map,getElem?_eq_getElem z]at hi
      simp at hi
      subst hi
      obtain⟨v,g1,g2⟩:=hr'.get (getElem?_eq_getElem z)
      refine⟨v,?_,rfl,g2⟩
      unfold start
      rw[map_cons,cons_append,getElem?_cons_succ,getElem?_append_left (by simp;lia),getElem?_map,g1]
      rfl
     .rw [getElem?_append_right (by simpa using z)]at hi
      have:=mem_of_getElem? hi
      rw[mem_replicate]at this
      cases this.2
   .unfold startM at hi
    cases i with
    |zero=>simp at hi
    |succ i=>
     rw[getElem?_cons_succ]at hi
     by_cases z:i<ds.length
     .rw [getElem?_append_left (by simpa using z),getElem?_map]at hi
      simp at hi
     .rw [getElem?_append_right (by simpa using z)]at hi
      have:=mem_of_getElem? hi
      rw[mem_replicate]at this
      cases this.2
   .split
    .exact hnd
    .exact nodup_nil
   .split at y1
    .split at y2
     .lia
     .cases y2
    .cases y1
   .split at hb
    .refine ⟨hnf b hb,if_pos hb,?_⟩
     rcases mem_cons.mp hb with y |y
     .rw [y];exact⟨_,ha,rfl⟩
     .rcases mem_cons.mp y with y |y
      .rw [y];exact⟨_,hd,rfl⟩
      .exact hB.isl b y
    .cases hb
  refine⟨t,h1,h2 F _ F H (start N (V.ref a::rest)) (startM N c ns a ts ds) {nx:=λG=>∃ts',G[0]?=some (some (.own (.ob (some a) c ns ts')))/\Pr ts',rt:=λ_=>False} _ ⟨_,er⟩ ⟨λF' H' Y G e p=>?_,λ_ _ _ _ _ z=>z.elim,λ_ _ _ _ _ z=>z.elim,λ_ _ _ _ _ _ z=>z.elim⟩ (h3 a ts ds Pr hsp)⟩
  obtain⟨A',e⟩:=e
  obtain⟨ts',h0,hp⟩:=p
  obtain⟨v,hv,a',C',dx',vs',B',rfl,eA,g0,go,g1,g2,g3,g4⟩:=e.own 0 _ h0
  obtain rfl:=go a rfl
  rw[hC]at g0
  cases g0
  have hn':=e.nod 0
  rw[eA]at hn'
  refine hq ts' F' H' dx' vs' B' hp e.ext.ff e.ext.fh (λb o y z=>?_) (λb o y1 y2 y3 y4=>?_) g1 g2 g3 g4 hn' (λb hb=>?_)
  .exact e.ext.hh b o (by rw[if_neg y];exact z)
  .exact e.ext.no b o y1 (by rw[if_neg y4];exact y2) y3
  .obtain ⟨z1,z2,_⟩:=e.new 0 b (by rw[eA];exact hb)
   refine⟨z1,?_⟩
   by_cases q:b∈a'::dx::B
   .exact .inl q
   .rw [if_neg q]at z2;exact .inr z2
theorem CalM.of (Df:MetAt K c m q st f fd)(S:FnScope N ps (defScope st))
  (hb:∀(kV doc pm:Value) (an:Option Addr) (cdv ct:Value) (us:List Value),us.length=ps.length->bindArgs (fnOf m q (defArgs st) (defBody st) (defScope st) .none kV doc pm an cdv ct) ⟨us,[]⟩=pure (ps.zip us)) (hn:n=ps.length)
  (hbody:∀(cdv:Value) (A:Around) (outer:List Env) (s:Shared) (H:Hp) (E:XK),Room k (A.deeper (envOfC q (defScope st) s.heap.objs.size f cdv))->
   ∃t T,PSs (cxOf CX0 P w K mg base N q (defScope st) f cdv A outer s H E).nox (defBody st) t/\SimS K t T/\∀(a:Addr) ts ds Pr,sp ts ds Pr->T {nx:=λG=>∃ts',G[0]?=some (some (.own (.ob (some a) c ns ts')))/\Pr ts',rt:=λ_=>False} (startM N c ns a ts ds)):
  CalM P w K mg base c m (k+1) ps (spM K n c ns sp):=by
 obtain⟨C,hC,cl,hm⟩:=Df.cl
 exact⟨C,f,fd,hC,cl,hm,okM_of Df.fn S hn hbody,Df.fn.binds hb⟩
theorem CalK.of (Df:Fun K m q st f fd)(Mf:MakAt K mg c f)(S:FnScope N ps (defScope st))
  (hb:∀(kV doc pm:Value) (an:Option Addr) (cdv ct:Value) (us:List Value),us.length=ps.length->bindArgs (fnOf m q (defArgs st) (defBody st) (defScope st) .none kV doc pm an cdv ct) ⟨us,[]⟩=pure (ps.zip us)) (hn:n=ps.length)
  (hbody:∀(cdv:Value) (A:Around) (outer:List Env) (s:Shared) (H:Hp) (E:XK),Room k (A.deeper (envOfC q (defScope st) s.heap.objs.size f cdv))->
   ∃t T,PSs (cxOf CX0 P w K mg base N q (defScope st) f cdv A outer s H E).nox (defBody st) t/\SimS K t T/\∀(a:Addr) ts ds Pr,sp ts ds Pr->T {nx:=λG=>∃ts',G[0]?=some (some (.own (.ob (some a) c ns ts')))/\Pr ts',rt:=λ_=>False} (startM N c ns a ts ds)):
  CalK P w K mg base c (k+1) ps (spM K n c ns sp):=by
 obtain⟨C,hC,M,hm⟩:=Mf.cl
 exact⟨C,f,fd,hC,M,hm,okM_of Df S hn hbody,Df.binds hb⟩
theorem CalP.of (Df:MetAt K c m q st f fd)(S:FnScope N ps (defScope st))
  (hb:∀(kV doc pm:Value) (an:Option Addr) (cdv ct:Value) (us:List Value),us.length=ps.length->bindArgs (fnOf m q (defArgs st) (defBody st) (defScope st) .none kV doc pm an cdv ct) ⟨us,[]⟩=pure (ps.zip us)) (hn:n=ps.length)
  (hbody:∀(cdv:Value) (A:Around) (outer:List Env) (s:Shared) (H:Hp) (E:XK),Room k (A.deeper (envOfC q (defScope st) s.heap.objs.size f cdv))->
   ∃t T,PSs (cxOf CX0 P w K mg base N q (defScope st) f cdv A outer s H E).nox (defBody st) t/\SimS K t T/\∀ds Pr,sp ds Pr->T {nx:=λ_=>Pr (.fz .non),rt:=Pr} (startV N ds)): CalM P w K mg base c m (k+1) ps (spV K n sp):=by
 obtain⟨C,hC,cl,hm⟩:=Df.cl
 refine⟨C,f,fd,hC,cl,hm,Df.fn.ok S (λvs H Q E h=>by rw[<- hn];exact h.1) λcdv A outer s H vs Q E hr h=>?_,Df.fn.binds hb⟩
 obtain⟨_,F,ds,Pr,hs,hr',hsp,hq⟩:=h
 obtain⟨t,T,h1,h2,h3⟩:=hbody cdv A outer s H E hr
 refine⟨t,h1,h2 F H F H (start N vs) (startV N ds) {nx:=λ_=>Pr (.fz .non),rt:=Pr} _ ⟨_,startV_er hs hr'⟩ ⟨λF' H' Y G e p=>?_,λ_ _ _ _ _ z=>z.elim,λ_ _ _ _ _ z=>z.elim,λF' H' r v x n p=>hq r v F' H' p x n⟩ (h3 ds Pr hsp)⟩
 exact hq _ _ F' H' p e.ext (.fz rfl)
end
end L2
namespace PySem
open Sem (wp)
section
variable {prog:Program}{w:World}{A:Around}{E:Value->Shared->Prop}{s:Shared}
end
end PySem
namespace L2
open PySem PySem.Spec PyProof.Rows
section
variable {X:Cx}{K:Frag}
end
def repS (x:Str)(n:Int):Str:=if n<1 then Str.empty else if (n==1 ||x.length==0)=true then x else ⟨(List.replicate n.toNat x.cps).foldl (·++·) #[]⟩
def dJoin (E El:DE):DE:=λG P=>E G λd=>match d with
 | .str x=>El G λl=>match l with
  | .lst ds=>∃ys:List Str,ds=ys.map D.str/\(ys.map (·.length)).sum+ys.length*x.length<=16777216/\P (.str (Txt.join x ys))
  |_=>False
 |_=>False
def mulSD:DR2:=λx y P=>match x,y with
 | .str x,.int n=>-(2^62)<n/\n<2^62/\x.length*n.toNat<=1000000/\P (.str (repS x n))
 |_,_=>False
def addSD:DR2:=λx y P=>match x,y with
 | .str x,.str y=>x.length+y.length<=1000000/\P (.str (x++y))
 |_,_=>False
def strD:List D->(D->Prop)->Prop:=λds P=>match ds with
 | [.int i]=>i.natAbs.log2<1920/\P (.str (toString i))
 |_=>False
section
variable {X:Cx}{K:Frag}
def rJoin (K:Frag):V->List V->Hp->VK->Prop:=λx vs H Q=>∃sep p xs,∃ys:List Str,x = .str sep/\vs=[.ref p]/\SqL K H p xs/\xs=ys.map V.str/\(ys.map (·.length)).sum+ys.length*sep.length<=16777216/\Q (.str (Txt.join sep ys)) H
theorem strs_of_vals:∀{ys:List Str} {us:List Value},Vals (ys.map V.str) us->StrsAre us ys
 | [],us,r=>by rw[List.map_nil]at r;cases r;exact .nil
 |y :: ys,us,r=>by
  cases r with
  |cons r1 r2=>
   obtain⟨t,e⟩:=r1
   subst e
   exact .cons y t (strs_of_vals r2)
theorem mt_join:MtR X "str.join" (rJoin X.K):=by
 intro pins s Y H x xs v us Q I rx r h
 obtain⟨sep,p,zs,ys,rfl,rfl,hq,rfl,hb,q⟩:=h
 obtain⟨t,rfl⟩:=rx
 obtain⟨u,rfl,ru⟩:=vals1 r
 cases ru
 obtain⟨its,rv,pt,hz⟩:=I.list hq
 refine PyProof.Rows.join_list pt.isList (by simpa using strs_of_vals rv) hb λt' k=>⟨.str _,H,I.tok k,⟨_,rfl⟩,q⟩
theorem oS_addS:OpS K (λx y H Q=>∃i j,x = .str i/\y = .str j/\i.length+j.length<=sizeLine/\Q (.str (i++j)) H) addSD:=λF H x y v u P Q s rx ry w q=>by
 unfold addSD at w
 split at w
 .cases rx;cases ry
  exact⟨_,_,rfl,rfl,sz_le w.1,q _ _ F H w.2 (Ext.refl s) rfl⟩
 .exact w.elim
def rSlStr:V->Option Int->Option Int->Hp->VK->Prop:=λx lo hi H Q=>∃z,x = .str z/\z.length<=sizeLine/\Q (.str (Txt.slice z lo hi)) H
theorem sl_str:SlR X rSlStr:=by
 intro pins s Y H x v vl vu lo hi sl Q I rx hs pl pu h
 obtain⟨z,rfl,hz,q⟩:=h
 obtain⟨t,rfl⟩:=rx
 refine⟨"str",_,F.slot_str_getitem.lookup,typeIs_str _ _ _,?_⟩
 have fin:∀t' k,EP X pins Y Q (.str (Txt.slice z lo hi) t') {s with toks:=k}:=λt' k=>⟨.str _,H,I.tok k,⟨_,rfl⟩,q⟩
 have lp:∀{v:Value} {o:Option Int},IsPart v o->∃l:Option (Int×Tok),v=partValue l/\l.map (·.1)=o:=λh=>by
  cases h with
  |none=>exact⟨none,rfl,rfl⟩
  |int i t=>exact⟨some (i,t),rfl,rfl⟩
 obtain⟨l,rfl,e1⟩:=lp pl
 obtain⟨u,rfl,e2⟩:=lp pu
 subst e1 e2
 exact wpAny_getItem_str_slice (st:=none) hs rfl (post_val_or_str ⟨le_trans (Txt.slice_le z _ _) hz,λt' k=>fin t' k⟩)
theorem cS_str:CbS K (λxs H Q=>∃i,xs=[.int i]/\i.natAbs.log2<1920/\Q (.str (toString i)) H) strD:=λF H ds vs P Q s rs w q=>by
 unfold strD at w
 split at w
 .obtain ⟨v,rfl,r1⟩:=reps1 rs
  cases r1
  exact⟨_,rfl,w.1,q _ _ F H w.2 (Ext.refl s) rfl⟩
 .exact w.elim
theorem sF_join (h:SimB K te E)(ha:SimB K ta El): SimF K (tBM K "str" (rJoin K) te (tCons ta tNil)) (dJoin E El):=λF0 H0 F H Y G P Q e w q=>h F0 H0 F H Y G _ _ e w λd v F1 H1 w1 x1 r1=>by
 split at w1
 .rename_i x
  cases (show v=V.str x from r1)
  refine⟨rfl,ha F0 H0 F1 H1 Y G _ _ (e.on x1) w1 λl u F2 H2 w2 x2 r2=>?_⟩
  split at w2
  .obtain ⟨ys,rfl,hb,w2⟩:=w2
   obtain⟨a,us,rfl,h1,h2⟩:=r2
   have hus:us=ys.map V.str:=by
    clear h1 hb w2
    induction ys generalizing us with
    |nil=>exact h2
    |cons y ys ih=>
     obtain⟨v,r,rfl,g1,g2⟩:=h2
     rw[ih _ g2,show v=V.str y from g1];rfl
   exact⟨x,a,us,ys,rfl,rfl,h1,hus,hb,q _ _ F2 H2 w2 (x1.trans x2) rfl⟩
  .exact w2.elim
 .exact w1.elim
def dSlS (E:DE)(L U:DPt):DE:=λG P=>E G λd=>L G λlo=>U G λhi=>match d with
 | .str z=>z.length<=1000000/\P (.str (Txt.slice z lo hi))
 |_=>False
theorem sF_slS (ha:SimF K ta Ea)(hl:SimP K tl L)(hu:SimP K tu U): SimF K (tSl rSlStr ta tl tu) (dSlS Ea L U):=λF0 H0 F H Y G P Q e w q=>
 ha F0 H0 F H Y G _ _ e w λd v F1 H1 w1 x1 r1=>hl F0 H0 F1 H1 Y G _ _ (e.on x1) w1 λlo F2 H2 w2 x2=>hu F0 H0 F2 H2 Y G _ _ (e.on (x1.trans x2)) w2 λhi F3 H3 w3 x3=>by
  split at w3
  .rename_i z
   cases (show v=V.str z from r1)
   exact⟨z,rfl,sz_le w3.1,q _ _ F3 H3 w3.2 (x1.trans (x2.trans x3)) rfl⟩
  .exact w3.elim
end
section
variable {X:Cx}{K:Frag}
end
section
variable {X:Cx}{K:Frag}
end
section
variable {K:Frag}{c f:Str}{ns:List Str}{j:Nat}{ta:TE}{E:DE}
end
section
variable {X:Cx}{tg elt iter cd:Expr}{scope:Scope}{N:List Str}{ix:List (Option Nat)}{wi:TI}{g:TG}{tc:TT}{te:TE}{pos:Pos}
end
section
variable {K:Frag}{te:TE}{Eo:DO}
end
section
variable {prog:Program}{w:World}{A:Around}{E:Value->Shared->Prop}{s:Shared}
end
section
variable {X:Cx}{K:Frag}{mg:Str->Option Value}
end
section
variable {X:Cx}{K:Frag}
end
abbrev TK:=V->St->Hp->(Bool->Hp->Prop)->Prop
section
variable {X:Cx}{K:Frag}{a e e':Expr}{es:List Expr}{op op':CmpOp}{ops:List CmpOp}{r:R2}{ta te:TE}{tk:TK}{pos:Pos}
end
abbrev DK:=D->Dst->(Bool->Prop)->Prop
section
variable {K:Frag}{ta te:TE}{E Ea:DE}{tk:TK}{k:DK}{R:R2}{r:DR2}
end
section
variable {X:Cx}{K:Frag}{st:Stmt}{sts:List Stmt}
end
section
variable {prog:Program}{w:World}{A:Around}{E:Value->Shared->Prop}{s:Shared}
end
section
variable {X:Cx}{K:Frag}{mg:Str->Option Value}
end
section
variable {X:Cx}{K:Frag}{x:Str}{kds:List (Str×D)}{i:Expr}{ty:TE}{pos pos':Pos}
end
section
variable {M:Model}{A:Around}{E:Value->Shared->Prop}{s:Shared}
end
section
variable {X:Cx}{pins:List (Addr×Obj)}{Y:St}{H:Hp}{s:Shared}{scope:Scope}{N:List Str}{ix:List (Option Nat)}{fp:List Addr}{z:Str}
end
section
variable {X:Cx}{tg elt iter:Expr}{scope:Scope}{N:List Str}{ix:List (Option Nat)}{wi:TI}{g:TG}{te:TE}{pos:Pos}{z:Str}
end
section
variable {X:Cx}
end
section
variable {K:Frag}
end
def g1 {α:Type}(l r:List α):List α->List α->List α
 | [a],[b]=>a::(l++b::r)
 |_,_=>[]
theorem g1_rel {l r:List V}{l' r':List Value}(hl:Vals l l')(hr:Vals r r'){vs zs:List V}{us ws:List Value}(h1:Vals vs us)(h2:Vals zs ws):Vals (g1 l r vs zs) (g1 l' r' us ws):=by
 cases h1 with
 |nil=>exact .nil
 |cons a as=>
  cases as with
  |cons b bs=>cases h2<;>exact .nil
  |nil=>
   cases h2 with
   |nil=>exact .nil
   |cons c cs=>
    cases cs with
    |cons d ds=>exact .nil
    |nil=>exact .cons a (hl.append (.cons c hr))
structure CalE (P:Program) (w:World) (K:Frag) (mg:Str->Option Value) (base:Heap) (x:Str) (k:Nat) (ps:List Str) (sp:Sp) (d0 d1:V):Prop where
 ex:∃f fd e0 e1,FnOk P w K mg base CX0 k f fd ps sp/\mg x=some (.ref f)/\keepIn K (.ref f)=true/\Vals [d0] [e0]/\Vals [d1] [e1]/\Binds K fd ps []/\Binds K fd ps [e1]/\Binds K fd ps [e0,e1]/\
  KBinds K fd ps [ps.getD 1 ""] (g1 [] [e1]) (g1 [] [d1])/\KBinds K fd ps [ps.getD 2 ""] (g1 [e0] []) (g1 [d0] [])
section
variable {P:Program}{w:World}{K:Frag}{mg:Str->Option Value}{base:Heap}{x:Str}{k:Nat}{ps:List Str}{sp:Sp}{d0 d1:V}
end
section
variable {X:Cx}{x:Str}{k:Nat}{ps:List Str}{sp:Sp}{d0 d1:V}{e c:Expr}{t tk:TA}{p pos kp:Pos}{nm:Str}
end
section
variable {K:Frag}
theorem CalVE.of {P:Program}{w:World}{mg:Str->Option Value}{base:Heap}{x:Str}{st:Stmt}{f T:Addr}{fd:FuncData}{N:List Str}{p0 p1 p2:Str}{k:Nat}{sp:DSp}{e0 e1:Value}{d0 d1:V}(Df:DefAtD K mg x st f fd T #[e0,e1])(S:FnScope N [p0,p1,p2] (defScope st))
  (hb:∀(kV doc pm:Value) (an:Option Addr) (cdv ct a b c:Value),∃k,bindArgs (fnOf x x (defArgs st) (defBody st) (defScope st) (.ref T) kV doc pm an cdv ct) ⟨[a,b,c],[]⟩=seqItems? (.ref T) >>= k/\k (some #[e0,e1])=pure [(p0,a),(p1,b),(p2,c)])
  (hb1:∀(kV doc pm:Value) (an:Option Addr) (cdv ct a b:Value),∃k,bindArgs (fnOf x x (defArgs st) (defBody st) (defScope st) (.ref T) kV doc pm an cdv ct) ⟨[a,b],[]⟩=seqItems? (.ref T) >>= k/\k (some #[e0,e1])=pure [(p0,a),(p1,b),(p2,e1)])
  (hb2:∀(kV doc pm:Value) (an:Option Addr) (cdv ct a:Value),∃k,bindArgs (fnOf x x (defArgs st) (defBody st) (defScope st) (.ref T) kV doc pm an cdv ct) ⟨[a],[]⟩=seqItems? (.ref T) >>= k/\k (some #[e0,e1])=pure [(p0,a),(p1,e0),(p2,e1)])
  (hk0:∀(kV doc pm:Value) (an:Option Addr) (cdv ct a b:Value),∃k,bindArgs (fnOf x x (defArgs st) (defBody st) (defScope st) (.ref T) kV doc pm an cdv ct) ⟨[a],[(p1,b)]⟩=seqItems? (.ref T) >>= k/\k (some #[e0,e1])=pure [(p0,a),(p1,b),(p2,e1)])
  (hk1:∀(kV doc pm:Value) (an:Option Addr) (cdv ct a b:Value),∃k,bindArgs (fnOf x x (defArgs st) (defBody st) (defScope st) (.ref T) kV doc pm an cdv ct) ⟨[a],[(p2,b)]⟩=seqItems? (.ref T) >>= k/\k (some #[e0,e1])=pure [(p0,a),(p1,e0),(p2,b)])
  (v0:Vals [d0] [e0]) (v1:Vals [d1] [e1])
  (hbody:∀(cdv:Value) (A:Around) (outer:List Env) (s:Shared) (H:Hp) (E:XK),Room k (A.deeper (envOfC x (defScope st) s.heap.objs.size f cdv))->
   ∃t T,PSs (cxOf CX0 P w K mg base N x (defScope st) f cdv A outer s H E).nox (defBody st) t/\SimS K t T/\∀ds Pr,sp ds Pr->T {nx:=λ_=>Pr (.fz .non),rt:=Pr} (startV N ds)):CalE P w K mg base x (k+1) [p0,p1,p2] (spV K 3 sp) d0 d1:=by
 obtain⟨oc,od,kV,doc,pm,an,cdv,ct,osl,rfl,lk,hcd⟩:=Df.ex
 obtain⟨o,m,ht,hs⟩:=Df.tup
 refine⟨f,_,e0,e1,fn_of lk hcd S (λvs H Q E h=>h.1) (λA outer s H vs Q E hr h=>?_),Df.here,Df.kp,v0,v1,?_,?_,?_,⟨?_,g1_rel .nil v1⟩,⟨?_,g1_rel v0 .nil⟩⟩
 .obtain ⟨_,F,ds',Pr,hs',hr',hsp,hq⟩:=h
  obtain⟨t,T',h1,h2,h3⟩:=hbody cdv A outer s H E hr
  refine⟨t,h1.nox,h2 F H F H (start N vs) (startV N ds') {nx:=λ_=>Pr (.fz .non),rt:=Pr} _ ⟨_,startV_er hs' hr'⟩ ⟨λF' H' Y G e p=>?_,λ_ _ _ _ _ z=>z.elim,λ_ _ _ _ _ z=>z.elim,λF' H' r v x n p=>hq r v F' H' p x n⟩ (h3 ds' Pr hsp)⟩
  exact hq _ _ F' H' p e.ext (.fz rfl)
 .intro s us KX hl
  match us,hl with
  | [a,b,c],_=>
   obtain⟨k',z1,z2⟩:=hb kV doc pm an cdv ct a b c
   exact binds_K KX rfl ht hs z1 z2
 .intro s us KX hl
  have hl':us.length=2:=by simpa using hl
  match us,hl' with
  | [a,b],_=>
   obtain⟨k',z1,z2⟩:=hb1 kV doc pm an cdv ct a b
   exact binds_K KX rfl ht hs z1 z2
 .intro s us KX hl
  have hl':us.length=1:=by simpa using hl
  match us,hl' with
  | [a],_=>
   obtain⟨k',z1,z2⟩:=hb2 kV doc pm an cdv ct a
   exact binds_K KX rfl ht hs z1 z2
 .intro s us ws KX hl
  match us,ws,hl with
  | [a],[b],_=>
   obtain⟨k',z1,z2⟩:=hk0 kV doc pm an cdv ct a b
   exact binds_K KX rfl ht hs z1 z2
  | [],_,hl=>cases hl
  |_::_::_,_,hl=>cases hl
  | [_],[],hl=>cases hl
  | [_],_::_::_,hl=>cases hl
 .intro s us ws KX hl
  match us,ws,hl with
  | [a],[b],_=>
   obtain⟨k',z1,z2⟩:=hk1 kV doc pm an cdv ct a b
   exact binds_K KX rfl ht hs z1 z2
  | [],_,hl=>cases hl
  |_::_::_,_,hl=>cases hl
  | [_],[],hl=>cases hl
  | [_],_::_::_,hl=>cases hl
end
section
variable {K:Frag}
end
section
variable {K:Frag}{F0 H0 F H F' H':Hp}{Y:St}{G:Dst}{A:Nat->List Addr}{i:Nat}
end
section
variable {K:Frag}{c f m c2:Str}{ns ns2:List Str}{i j:Nat}
end
end L2
namespace PySem
section
variable {prog:Program}{w:World}{A:Around}{R:Result->Shared->Prop}{I:Addr}{fp wr:List Addr}{δ:Array GenState->Array GenState->Prop}{n:Nat}{P:Nat->Value->Prop}{St:Nat->Shared->Prop}
end
section
variable {prog:Program}{w:World}{A:Around}{E:Value->Shared->Prop}{s:Shared}
end
end PySem
namespace L2
open PySem PySem.Spec PyProof.Rows
section
variable {X:Cx}
def rStrip:V->List V->Hp->VK->Prop:=λx vs H Q=>∃a b,x = .str a/\vs=[.str b]/\a.length<=sizeLine/\Q (.str (Txt.stripChars a b)) H
theorem mt_strip:MtR X "str.strip" rStrip:=by
 intro pins s Y H x xs v us Q I rx r h
 obtain⟨a,b,rfl,rfl,hz,q⟩:=h
 obtain⟨t,rfl⟩:=rx
 obtain⟨u,rfl,ru⟩:=vals1 r
 obtain⟨t',rfl⟩:=ru
 exact PySem.W.KXw.stripChars rfl hz λt'' k=>⟨.str _,H,I.tok k,⟨_,rfl⟩,q⟩
end
def dStrip (E Ec:DE):DE:=λG P=>E G λd=>match d with
 | .str x=>Ec G λl=>match l with
  | .str y=>x.length<=1000000/\P (.str (Txt.stripChars x y))
  |_=>False
 |_=>False
section
variable {K:Frag}{c f:Str}{ns:List Str}{i j:Nat}
theorem sF_strip (h:SimB K te E)(ha:SimB K ta El): SimF K (tBM K "str" rStrip te (tCons ta tNil)) (dStrip E El):=λF0 H0 F H Y G P Q e w q=>h F0 H0 F H Y G _ _ e w λd v F1 H1 w1 x1 r1=>by
 split at w1
 .rename_i x
  cases (show v=V.str x from r1)
  refine⟨rfl,ha F0 H0 F1 H1 Y G _ _ (e.on x1) w1 λl u F2 H2 w2 x2 r2=>?_⟩
  split at w2
  .rename_i y
   cases (show u=V.str y from r2)
   exact⟨x,y,rfl,rfl,sz_le w2.1,q _ _ F2 H2 w2.2 (x1.trans x2) rfl⟩
  .exact w2.elim
 .exact w1.elim
end
end L2
namespace PySem.W
open PySem PySem.Spec PySem.Calls PyProof.Rows Builtin Builtin.ObjectAttr Builtin.Getset_descriptor
section
variable {prog:Program}{w:World}{A:Around}{E:Value->Shared->Prop}{s:Shared}{K:Frag}{x D:Addr}{ox:Obj}
theorem find_data {M:Model}{h:Heap}{a g:Value}{name:Str}(X:K.In h)(ha:findIn K (.ref D) name=some (some a))(hn:specialIn K a "__get__"=some (some g))(htk:takesIn K a=some true):Looks M h (Builtin.ObjectAttr.find (.ref x) (.ref D) name) (.bind g a):=
 (looks_findIn X ha).andThen ((looks_specialIn X hn).andThen ((show Looks M h (Builtin.ObjectAttr.dataDescriptor? (some a) (some g)) (some (g,a)) from (looks_takesIn X htk).andThen .now).andThen (Looks.tag .now)))
theorem class_got {R:Result->Shared->Prop}{tp:Value}(X:K.In s.heap)(L0:Looks (model prog w) s.heap (typeOf (.ref x)) (.ref D))(hm:mroIn K D (.type "object")=some true)
  (h:R (.ok (.ret (.ref D))) s):codeAny (model prog w) A (.call (.builtin "getset_descriptor.__get__") ⟨[.builtin "object.__class__",.ref x,tp],[]⟩) R s:=by
 have L1:=looks_mroIn (M:=model prog w) X hm
 refine codeAny_call_builtin KF.slot_gs.plain KF.entry_gs (KF.slot_gs.check _ _ _ _ _ _ _ _ KF.type_class (KF.args_gs _ _ _) ?_)
 unfold Builtin.«getset_descriptor.__get__» descrGet
 refine wpAny_bind (wpAny_pure ?_)
 unfold descrGetter descrCheckInstance descrNameAndClass isInstance
 simp only[KF.owner_class]
 repeat lk
 refine⟨Code.quiet_builtin _ (by decide +kernel),codeAny_builtin KF.entry_class ?_⟩
 repeat lk
 exact h
theorem exc_class {Q:Option Value->Shared->Prop}(hga:findIn K (.ref D) "__getattribute__"=some (some (.builtin "BaseException.__getattribute__")))(hgg:findIn K (.ref D) "__getattr__"=some none)
  (hb:subIn K (.ref D) (.type "BaseException")=some true) (ha:findIn K (.ref D) "__class__"=some (some (.builtin "object.__class__")))
  (hn:specialIn K (.builtin "object.__class__") "__get__"=some (some (.builtin "getset_descriptor.__get__"))) (htk:takesIn K (.builtin "object.__class__")=some true) (hm:mroIn K D (.type "object")=some true)
  (X:K.In s.heap) (L0:Looks (model prog w) s.heap (typeOf (.ref x)) (.ref D)) (h:Q (some (.ref D)) {s with toks:=s.toks+1}):wpAny (model prog w) A (getAttr? (.ref x) "__class__") Q E s:=by
 obtain⟨hh,g,d,t,os⟩:=s
 have L1:=looks_findIn (M:=model prog w) X hga
 have L2:=looks_findIn (M:=model prog w) X hgg
 have L3:=find_data (M:=model prog w) (x:=x) X ha hn htk
 have L4:=looks_subIn (M:=model prog w) X hb
 refine wpAny_bind (wpAny_mkText (wpAny_bind (wpAny_attempt (wpAny_holding (wpAny_bind (L0.at (wpAny_bind (L1.at ?_))))))))
 refine wpAny_bind (L2.at ?_)
 have key:wpAny (model prog w) A (callGetattribute (Value.ref x) (Value.str (Str.ofString "__class__") t) (Value.builtin "BaseException.__getattribute__") false) (λv s'=>v = .ref D/\s'=⟨hh,g,d,t+1,os⟩) (λ_ _=>False) ⟨hh,g,d,t+1,os⟩:=by
  show wpAny _ _ (bindSpecial (Value.builtin "BaseException.__getattribute__") (.ref x) >>= _) _ _ _
  refine wpAny_call (codeAny_call_builtin PySem.F.excAttr_ValueError.ga.plain PySem.F.entry_bexc_ga ?_)
  have hk:builtinKind "BaseException.__getattribute__"=some .slot:=by decide +kernel
  have hsplit:splitId "BaseException.__getattribute__"=some ("BaseException","__getattribute__"):=by decide +kernel
  have har:=PySem.F.args_bexc_ga (.ref x) (.str (Str.ofString "__class__") t)
  have LI:Looks (model prog w) hh (isInstance (.ref x) (.type "BaseException")) true:=L0.andThen L4
  refine wpAny_bind (LI.at ?_)
  have hsg:wpAny (model prog w) A.in1 (match Manifest.signature? "BaseException.__getattribute__" with
     |some sig=>Bind.checkArgs "BaseException.__getattribute__" sig {pos:=[Value.ref x,Value.str (Str.ofString "__class__") t]}
     |x=>pure ()) (λ_ s'=>s'=⟨hh,g,d,t+1,os⟩) (λ_ _=>False) ⟨hh,g,d,t+1,os⟩:=by
   cases hsig:Manifest.signature? "BaseException.__getattribute__" with
   |none=>exact wpAny_pure rfl
   |some sig=>
    simp only[argsOk,hsig]at har
    show wpAny _ _ (Bind.checkArgs "BaseException.__getattribute__" sig _) _ _ _
    rw[har]
    exact wpAny_pure rfl
  refine wpAny_mono hsg (λ_ s' e=>?_) (λ_ _ z=>z)
  subst e
  repeat (any_goals (first |assumption | (refine wpAny_bind (L0.at ?_)) | (refine wpAny_bind (L3.at ?_)) |wp_step))
  exact class_got (s:=⟨hh,g,d,t+1,os⟩) X L0 hm (wpAny_pure ⟨rfl,rfl⟩)
 refine wpAny_bind (wpAny_attempt (wpAny_holding (wpAny_mono key (λv s' z=>?_) λ_ _ z=>z.elim)))
 obtain⟨rfl,rfl⟩:=z
 exact handed_on rfl (wpAny_pure h)
structure ExcK (K:Frag) (D:Addr):Prop where
 ga:findIn K (.ref D) "__getattribute__"=some (some (.builtin "BaseException.__getattribute__"))
 gg:findIn K (.ref D) "__getattr__"=some none
 cls:hasDictIn K D=true
 sub:subIn K (.ref D) (.type "BaseException")=some true
 attr:findIn K (.ref D) "__class__"=some (some (.builtin "object.__class__"))
 get:specialIn K (.builtin "object.__class__") "__get__"=some (some (.builtin "getset_descriptor.__get__"))
 takes:takesIn K (.builtin "object.__class__")=some true
 mro:mroIn K D (.type "object")=some true
theorem kitx_exc (Z:ExcK K D):KitX K (.ref x) (.ref D) (λh=>∃o,h.get? x=some o/\o.cls = .ref D) where
 ty:=λ_ _ _ ⟨o,h1,h2⟩=>h2▸(Looks.ld h1).andThen .now
 it:=λ_ _ X _=>by
  obtain⟨cdD,hcD,_⟩:=any_some Z.cls
  unfold clsIn at hcD
  split at hcD
  .rename_i c' d' cd' sl' ho
   intro A' Q' E' s' k q
   exact wpAny_bind (wpAny_loadPart (k _ _ (X _ _ ho)) (wpAny_pure q))
  .cases hcD
 ne:=λh tp dd its n sl X htp=>by
  obtain⟨cdD,hcD,_⟩:=any_some Z.cls
  refine Bool.eq_false_iff.mpr λq=>?_
  have e:D=tp:=Value.ref.inj (beq_iff_eq.mp q)
  subst e
  unfold clsIn at hcD
  split at hcD
  .rename_i c' d' cd' sl' ho
   have z:=(X _ _ ho).symm.trans htp
   cases z
  .cases hcD
 ca:=λX ⟨o,h1,h2⟩ k=>exc_class Z.ga Z.gg Z.sub Z.attr Z.get Z.takes Z.mro X (h2▸(Looks.ld h1).andThen .now) k
end
end PySem.W
namespace L2
open PySem PySem.Spec PyProof.Rows PyProof.V PySem.W
def tTry2 (K:Frag)(W:Addr)(ni:Nat)(sp:Sp)(t:TA)(th:TS):TS:=λD Y H=>t Y H λvs H1=>sp vs H1 (λ_ H2=>D.nx Y H2) λcls _ H2=>∃C,cls = .ref C/\exmOne K (.ref C) (.ref W)=some true/\
 ∀a,H2 a=none->th {nx:=λY' H'=>D.nx (Y'.set ni none) H',rt:=λ_ _=>False} (Y.set ni (some (.ref a))) (upd H2 a (.ext (clsφ a (.ref C))))
section
variable {X:Cx}
theorem ps_try2
  (hst:X.stack=X.env::X.outer) (hfl:X.env.frame=some X.env.locals) (hxe:∀e s',¬ X.xe e s') (C:CalX X.prog X.w X.K X.mg X.base g k ps sp) (hr:Room k X.A) (hg:Gl X g) (ha:PA X (e::es) t)
  (hgw:Gl X wx) (hmw:X.mg wx=some (.ref W)) (hN:X.N.Nodup) (hi:X.N[ni]?=some n) (hloc:X.env.scope.names.lookup n=some .local) (hnl:X.env.kindOf n=some .local) (hth:∀a,PSs (X.hdl a) (b₀::suite) th)
  (hdb:(g==("__debug__":Str))=false:=by decide) (hdw:(wx==("__debug__":Str))=false:=by decide) (he:starEach (e::es) X.env=(false,eval e X.env)::starEach es X.env:=by rfl) (hpl:(backTo cpos (starEach es X.env)).any (·.1)=false:=by rfl)
  (hsw:swapsWith (.Call (.Name g p) (e::es) [] cpos) none epos.line X.env=pure false:=by rfl):
  PS X (.Try [.Expr (.Call (.Name g p) (e::es) [] cpos) epos] [.ExceptHandler (some (.Name wx np)) (some n) (b₀::suite) hpos] [] [] tpos) (tTry2 X.K W ni sp t th):=by
 intro pins s Y H D I h
 obtain⟨f,fd,F,hm,hk,hb⟩:=C.ex
 refine wpAny_Try_except ?_
 refine wpAny_execs_cons (wpAny_Expr_any (wpAny_Call_Name_kw (ld_glob I hg hm ?_ hdb)) I.quiet hsw)
 refine callWith_K I.ok.mod.kin hk (wpAny_mono (ha cpos pins s Y H _ I h) (λus s1 ⟨vs,H1,I1,r,q⟩=>⟨I1.kIn,?_⟩) λe s' z=>absurd z (hxe e s')) he hpl
 have hl:(us++[]).length=ps.length:=by rw[append_nil,<- r.length];exact F.len _ _ _ _ q
 have hbt:=hb s1 us I1.kIn hl
 rw[append_nil]at hbt
 refine wpAny_call (codeAny_mono (F.run X.A X.stack s1 H1 ⟨us,[]⟩ us vs _ _ hr I1.env0 hbt r q) λres s' hq=>?_)
 cases res with
 |ok fl=>
  cases fl with
  |ret u=>
   obtain⟨v,H',I',r',z⟩:=I1.after hq
   exact wpAny_execs_nil (wpAny_execs_nil ⟨Y,H',I',z⟩)
  |_=>exact False.elim hq
 |error ev=>
  obtain⟨a,C1,a0,B,H',rfl,⟨C2,hCe,hex,hth'⟩,fl,agree,un,hok,bare,hos,hna⟩:=hq
  cases hCe
  have hfr:X.A.frames=some (X.env::X.outer):=by rw[<- hst];exact I.ok.frames
  have fl0:=fl
  rw[hst]at fl
  refine wpAny_looks_onW hfr hfl fl λh4 held4 sm4=>?_
  refine wpAny_landsW held4 λh5 fl5 sm5=>?_
  have sm45:=sm4.trans sm5
  have fl5':Heap.FlyingW B X.stack a (.ref C1) a0 h5:=by rw[hst];exact fl5
  have I5:=(I1.caught fl0 agree un hok bare hos hna fl5' sm45).hdl a
  refine wpAny_handleBy_cons (codeAny_handlers_test (ld_glob (X:=X.hdl a) I5 hgw hmw ?_ hdw)) (by intro q;cases q)
  have LT:Looks (model X.prog X.w) h5 (typeOf (.ref a)) (.ref C1):=by
   obtain⟨ob,hob,hc⟩:=fl5.there
   rw[<- hc]
   exact (Looks.ld hob).andThen .now
  refine (exm_one (M:=model X.prog X.w) I5.kIn LT hex).here ?_
  refine codeAny_handlers_suite_as ?_
  refine lands_againW fl5 λh6 fl6 sm6=>?_
  have fl6':Heap.FlyingW B X.stack a (.ref C1) a0 h6:=by rw[hst];exact fl6
  have I6:=(I1.caught fl0 agree un hok bare hos hna fl6' (sm45.trans sm6)).hdl a
  refine store_ok (X:=X.hdl a) I6 hN hi (.inl hloc) (v:=.ref a) rfl (λs7 I7=>?_) (.inr hloc)
  refine wpAny_mono (hth a pins s7 _ _ _ I7 (hth' a hna)) (λfw s8 q8=>?_) (λe s8 z=>z.elim)
  cases fw with
  |next=>
   obtain⟨Y',Hn,I8,q⟩:=q8
   have I8':Inv X pins Y' Hn s8:=I8.unhdl I.ok
   obtain⟨m,hn,hlo⟩:=id I8'.loc
   refine wpAny_nameGoes_keeps hnl hn (by rw[I.ok.kind];rfl) λh9 v9 hn9 sb9=>?_
   exact⟨Y'.set ni none,Hn,I8'.goes hN hi hlo hn9 sb9,q⟩
  |ret u=>obtain⟨v,Y',Hn,I8,_,z⟩:=q8;exact z.elim
  |brk=>obtain⟨Y',Hn,I8,z⟩:=q8;exact False.elim z
  |cont=>obtain⟨Y',Hn,I8,z⟩:=q8;exact False.elim z
end
abbrev DSpX:=List D->(OV->Prop)->(Str->Prop)->Prop
def spX (K:Frag)(n:Nat)(sp:DSpX):Sp:=λvs H Q E=>vs.length=n/\∃F ds Pr Xc,Same F H/\Reps K F ds vs/\sp ds Pr Xc/\(∀r v F' H',Pr r->Ext F H F' H'->RepN K H F' H' r v->Q v H')/\
 ∀c C F' H',Xc c->nsIn K mainGlobals c=some (some (.ref C))->Ext F H F' H'->E (.ref C) none H'
def SimX (K:Frag)(F0 H0:Hp)(t:TS)(T:DS):Prop:=∀F H Y G De En,EnvR K F0 H0 F H Y G->Lk K F0 H0 De En->T De G->t En Y H
section
variable {K:Frag}{F0 H0:Hp}{t u:TS}{T U:DS}
theorem SimS.x (h:SimS K t T): SimX K F0 H0 t T:=λF H Y G De En=>h F0 H0 F H Y G De En
theorem sP_seq (h:SimX K F0 H0 t T)(g:SimX K F0 H0 u U): SimX K F0 H0 (tSeq t u) (sSeq T U):=λF H Y G De E e l w=>
 h F H Y G {De with nx:=U De} _ e ⟨λF1 H1 Y1 G1 e1 w1=>g F1 H1 Y1 G1 De E e1 l w1,l.bk,l.ct,l.rt⟩ w
theorem sP_if (h:SimT K c C)(ht:SimX K F0 H0 t T)(hu:SimX K F0 H0 u U): SimX K F0 H0 (tIfS c t u) (sIf C T U):=λF H Y G De En e l w=>h F0 H0 F H Y G _ _ e w λb F' H' p x=>by
 cases b with
 |true=>exact iteT (ht F' H' Y G De En (e.on x) l p)
 |false=>exact iteB rfl (hu F' H' Y G De En (e.on x) l p)
def sRaise (X:Prop)(Em:DE):DS:=λ_ G=>Em G λ_=>X
theorem sP_raise {c:Str}{C:Addr}{tm:TE}{Em:DE}{E:XK}{Xc:Str->Prop}(hC:nsIn K mainGlobals c=some (some (.ref C)))(hx:∀c C F' H',Xc c->nsIn K mainGlobals c=some (some (.ref C))->Ext F0 H0 F' H'->E (.ref C) none H')(h:SimB K tm Em):
  SimX K F0 H0 (tRaise tm λH'=>E (.ref C) none H') (sRaise (Xc c) Em):=λF H Y G De En e l w=>
 h F0 H0 F H Y G _ _ e w λd v F' H' p x r=>⟨by rw[length_singleton];decide,hx c C F' H' p hC (EnvR.ext (e.on x))⟩
end
theorem own_of {K:Frag}{mg:Str->Option Value}{base:Heap}{c:Str}{C:Addr}(X:K.In base)(δ:base.Ns mainGlobals mg)(e:nsIn K mainGlobals c=some (some (.ref C)))
  (q:excIn K C [.type "ValueError",.type "Exception",.type "BaseException",.type "object"] "ValueError.__new__"=true):OwnCls c C [.type "ValueError",.type "Exception",.type "BaseException",.type "object"] "ValueError.__new__" mg base:=by
 refine⟨mg_of X δ e,?_⟩
 unfold excIn at q
 split at q
 .rename_i dd cd sl ho
  split at q
  .rename_i C' bm k0 k1 k2 k3 n k5 hm hs
   simp only[and_eq_true,beq_iff_eq,Bool.not_eq_true']at q
   obtain⟨⟨⟨⟨⟨rfl,rfl⟩,hdel⟩,ht⟩,hok⟩,hni⟩:=q
   obtain⟨nm,bs,mro,ns,qn,hd,sn,sub,ab,col,del⟩:=cd
   subst hm hdel
   have hsl:sl=#[k0,k1,k2,k3,some (.builtin "ValueError.__new__"),k5]:=by
    obtain⟨l⟩:=sl
    simp only at hs
    rw[hs]
   subst hsl
   exact⟨bm,ns,nm,qn,bs,hd,sn,sub,ab,col,dd,k0,k1,k2,k3,k5,_,X _ _ ho,.of_isNs (PySem.W.isNs_of_in X hok),PySem.W.nsMap_none_of_in X hok hni,PySem.W.tail_of_in X ht⟩
  .cases q
 .cases q
section
variable {P:Program}{w:World}{K:Frag}{mg:Str->Option Value}{base:Heap}{N:List Str}{qual:Str}{scope:Scope}{f:Addr}{cd:Value}{A:Around}{outer:List Env}{s:Shared}{H:Hp}{E:XK}
theorem CalXV.of {x:Str}{st:Stmt}{fd:FuncData}{ps:List Str}{k n:Nat}{sp:DSpX}(Df:DefAt K mg x st f fd)(S:FnScope N ps (defScope st))
  (hb:∀(kV doc pm:Value) (an:Option Addr) (cdv ct:Value) (us:List Value),us.length=ps.length->bindArgs (fnOf x x (defArgs st) (defBody st) (defScope st) .none kV doc pm an cdv ct) ⟨us,[]⟩=pure (ps.zip us)) (hn:n=ps.length)
  (hbody:∀(cdv:Value) (A:Around) (outer:List Env) (s:Shared) (H:Hp) (E:XK),Room k (A.deeper (envOfC x (defScope st) s.heap.objs.size f cdv))->∀(F:Hp) (Xc:Str->Prop),(∀c C F' H',Xc c->nsIn K mainGlobals c=some (some (.ref C))->Ext F H F' H'->E (.ref C) none H')->
   ∃t T,PSs (cxOf (CXE P w) P w K mg base N x (defScope st) f cdv A outer s H E) (defBody st) t/\SimX K F H t T/\∀ds Pr,sp ds Pr Xc->T {nx:=λ_=>Pr (.fz .non),rt:=Pr} (startV N ds)):CalX P w K mg base x (k+1) ps (spX K n sp):=by
 obtain⟨oc,od,kV,doc,pm,an,cdv,ct,osl,rfl,lk,hcd⟩:=Df.fn.ex
 refine⟨f,_,?_,Df.here,Df.fn.kp,Df.fn.binds hb⟩
 refine fn_of lk hcd S (λvs H Q E h=>by rw[<- hn];exact h.1) λA outer s H vs Q E hr h=>?_
 obtain⟨_,F,ds,Pr,Xc,hs,hr',hsp,hq,hE⟩:=h
 obtain⟨t,T,h1,h2,h3⟩:=hbody cdv A outer s H E hr F Xc hE
 refine⟨t,h1,h2 F H (start N vs) (startV N ds) {nx:=λ_=>Pr (.fz .non),rt:=Pr} _ ⟨_,startV_er hs hr'⟩ ⟨λF' H' Y G e p=>?_,λ_ _ _ _ _ z=>z.elim,λ_ _ _ _ _ z=>z.elim,λF' H' r v x n p=>hq r v F' H' p x n⟩ (h3 ds Pr hsp)⟩
 exact hq _ _ F' H' p e.ext (.fz rfl)
theorem CalX.cal (C:CalX P w K mg base x k ps (spX K n sp)): Cal P w K mg base x k ps (spV K n λds Pr=>sp ds Pr λ_=>False):=by
 obtain⟨f,fd,F,h1,h2,h3⟩:=C.ex
 refine⟨f,fd,⟨λvs H Q E h=>?_,λA outer s H args us vs Q E hr he hb hv hsp=>?_⟩,h1,h2,h3⟩
 .obtain ⟨hl,F',ds,Pr,hs,hr,hsp,hq⟩:=h
  exact F.len vs H Q (λ_ _ _=>False) ⟨hl,F',ds,Pr,_,hs,hr,hsp,hq,λ_ _ _ _ z=>z.elim⟩
 .obtain ⟨hl,F',ds,Pr,hs,hr',hsp,hq⟩:=hsp
  refine codeAny_mono (F.run A outer s H args us vs Q (λ_ _ _=>False) hr he hb hv ⟨hl,F',ds,Pr,_,hs,hr',hsp,hq,λ_ _ _ _ z=>z.elim⟩) λres s' hq=>?_
  cases res with
  |ok fl=>cases fl<;>exact hq
  |error e=>
   obtain⟨a,C1,a0,B,H',rfl,z,_⟩:=hq
   exact z.elim
end
def sTry2 (ni n:Nat)(sp:DSpX)(cs:List Str)(As:DA)(Th:DS):DS:=λDe G=>As G λds=>ds.length=n/\sp ds (λ_=>De.nx G) λc=>c∈cs/\Th {nx:=λG'=>De.nx (G'.set ni none),rt:=λ_=>False} (G.set ni (some (.own (.fz (.exc c)))))
section
variable {K:Frag}{F0 H0 F H:Hp}{Y:St}{G:Dst}{A:Nat->List Addr}
theorem ER.clr (e:ER K F0 H0 F H Y G A)(i:Nat): ER K F0 H0 F H (Y.set i none) (G.set i none) (λj=>if j=i then [] else A j) where
 len:=by simp[e.len]
 ext:=e.ext
 own := λj t hj=>by
  by_cases z:j=i
  .subst z
   rw[List.getElem?_set]at hj
   split at hj
   .split at hj<;>cases hj
   .cases (by assumption:¬ j=j) rfl
  .rw [getElem?_set_ne (Ne.symm z)]at hj
   obtain⟨v,h1,h2⟩:=e.own j t hj
   exact⟨v,by rw[getElem?_set_ne (Ne.symm z)];exact h1,by rw[if_neg z];exact h2⟩
 bw:=λj d hj=>by
  by_cases z:j=i
  .subst z
   rw[List.getElem?_set]at hj
   split at hj
   .split at hj<;>cases hj
   .cases (by assumption:¬ j=j) rfl
  .rw [getElem?_set_ne (Ne.symm z)]at hj
   obtain⟨v,h1,h2⟩:=e.bw j d hj
   exact⟨v,by rw[getElem?_set_ne (Ne.symm z)];exact h1,h2⟩
 nod:=λj=>by
  split
  .exact nodup_nil
  .exact e.nod j
 dis := λj k a hjk h1 h2=>by
  split at h1
  .cases h1
  .split at h2
   .cases h2
   .exact e.dis j k a hjk h1 h2
 new:=λj a ha=>by
  split at ha
  .cases ha
  .exact e.new j a ha
theorem sS_try2 (hW:∀c∈cs,∀C,nsIn K mainGlobals c=some (some (.ref C))->exmOne K (.ref C) (.ref W)=some true)(ha:SimAF K a As)(hth:SimS K th Th):
  SimS K (tTry2 K W ni (spX K n sp) a th) (sTry2 ni n sp cs As Th):=λF0 H0 F H Y G De En e l w=>ha F0 H0 F H Y G _ _ e w λds vs F1 H1 w1 x1 r1=>by
 have e1:=e.on x1
 refine⟨by rw[<- r1.length];exact w1.1,F1,ds,_,_,x1.fh,r1,w1.2,λr v F' H' p x' r'=>l.nx F' H' Y G (e1.on x') p,λc C F' H' p hC x'=>?_⟩
 obtain⟨hc,p⟩:=p
 refine⟨C,rfl,hW c hc C hC,λa ha=>?_⟩
 have x2:Ext F' H' (upd F' a (.ext (clsφ a (.ref C)))) (upd H' a (.ext (clsφ a (.ref C)))):=Ext.new x'.fh ha (Same.new ha) upd_same
 have e2:=(e1.on x').put x2 ni (r:=.fz (.exc c)) (v:=.ref a) (.fz ⟨a,C,rfl,hC,upd_same⟩)
 refine hth F0 H0 _ _ _ _ {nx:=λG'=>De.nx (G'.set ni none),rt:=λ_=>False} _ e2 ⟨λF3 H3 Y3 G3 e3 q3=>?_,λ_ _ _ _ _ z=>z.elim,λ_ _ _ _ _ z=>z.elim,λ_ _ _ _ _ _ z=>z.elim⟩ p
 obtain⟨A3,e3⟩:=e3
 exact l.nx F3 H3 _ _ ⟨_,e3.clr ni⟩ q3
end
structure ExcV (K:Frag) (c:Str) (xs:List (Str×Bool)) (ts:List (String×Bool)):Prop where
 ex:∃C,nsIn K mainGlobals c=some (some (.ref C))/\PySem.W.ExcK K C/\(∀y∈xs,∃D,nsIn K mainGlobals y.1=some (some (.ref D))/\kitOne K (.ref C) (.ref D)=some y.2)/\∀y∈ts,kitOne K (.ref C) (.type y.1)=some y.2
def rIsX (K:Frag):List V->Hp->VK->Prop:=λvs H Q=>∃a C v b,vs=[.ref a,v]/\H a=some (.ext (clsφ a (.ref C)))/\PySem.W.ExcK K C/\((∃D,v = .ref D/\kitOne K (.ref C) (.ref D)=some b)∨∃t,v = .ty t/\kitOne K (.ref C) (.type t)=some b)/\Q (.bl b) H
theorem call_isX:CallR X (.builtin "isinstance") (rIsX X.K):=by
 intro pins s Y H vs us Q I r h
 obtain⟨a,C,v,b,rfl,ha,Z,hv,q⟩:=h
 obtain⟨u,u',rfl,r1,r2⟩:=vals2 r
 cases r1
 have fin:∀tk,EP X pins Y Q (.bool b) {s with toks:=tk}:=λtk=>⟨.bl b,H,I.tok tk,rfl,q⟩
 have hφ:=(I.hok a _ ha).1
 rcases hv with⟨D,rfl,e⟩ | ⟨t,rfl,e⟩
 .cases r2
  exact kia_one (PySem.W.kitx_exc Z) I.kIn hφ e (λz=>nomatch z) fin
 .cases r2
  exact kia_one (PySem.W.kitx_exc Z) I.kIn hφ e (λz=>nomatch z) fin
def isxD (c:Str)(xs:List (Str×Bool))(ts:List (String×Bool)):List D->(D->Prop)->Prop:=λds P=>match ds with
 | [.exc c',.fn x]=>c'=c/\∃b,(x,b)∈xs/\P (.bl b)
 | [.exc c',.ty t]=>c'=c/\∃b,(t,b)∈ts/\P (.bl b)
 |_=>False
theorem cS_isX {K:Frag}{c:Str}{xs:List (Str×Bool)}{ts:List (String×Bool)}(EV:ExcV K c xs ts):CbS K (rIsX K) (isxD c xs ts):=λF H ds vs P Q s rs w q=>by
 obtain⟨C,hC,Z,h1,h2⟩:=EV.ex
 unfold isxD at w
 split at w
 .obtain ⟨rfl,b,hb,w⟩:=w
  obtain⟨v,u,rfl,r1,r2⟩:=reps2 rs
  obtain⟨a,C',rfl,hC',ha⟩:=r1
  rw[hC]at hC'
  cases hC'
  obtain⟨f,rfl,hf⟩:=r2
  obtain⟨D,hD,hk⟩:=h1 _ hb
  rw[hf]at hD
  cases hD
  exact⟨a,C,_,b,rfl,ha,Z,.inl ⟨_,rfl,hk⟩,q _ _ F H w (Ext.refl s) rfl⟩
 .obtain ⟨rfl,b,hb,w⟩:=w
  obtain⟨v,u,rfl,r1,r2⟩:=reps2 rs
  obtain⟨a,C',rfl,hC',ha⟩:=r1
  rw[hC]at hC'
  cases hC'
  cases r2
  exact⟨a,C,_,b,rfl,ha,Z,.inr ⟨_,rfl,h2 _ hb⟩,q _ _ F H w (Ext.refl s) rfl⟩
 .exact w.elim
open PySem PySem.Spec PyProof.Rows
theorem boot_ValueError:bootBuiltins "ValueError"=some (.type "ValueError"):=by decide +kernel
section
variable {X:Cx}{K:Frag}
def rIntT:List V->Hp->VK->Prop:=λvs H Q=>∃x n,vs=[.str x]/\PySem.intText? x=some n/\x.length<=640/\Q (.int n) H
theorem call_intT:CallR X (.type "int") rIntT:=by
 intro pins s Y H vs us Q I r h
 obtain⟨x,n,rfl,hn,hl,q⟩:=h
 obtain⟨u,rfl,ru⟩:=vals1 r
 obtain⟨t,rfl⟩:=ru
 exact PySem.W.KIN.call_text hn hl ⟨.int n,H,I.tok _,⟨_,rfl⟩,q⟩
def intTD:List D->(D->Prop)->Prop:=λds P=>match ds with
 | [.str x]=>∃n,PySem.intText? x=some n/\x.length<=640/\P (.int n)
 |_=>False
theorem cS_intT:CbS K rIntT intTD:=λF H ds vs P Q s rs w q=>by
 unfold intTD at w
 split at w
 .obtain ⟨n,hn,hl,w⟩:=w
  obtain⟨v,rfl,r1⟩:=reps1 rs
  cases r1
  exact⟨_,n,rfl,hn,hl,q _ _ F H w (Ext.refl s) rfl⟩
 .exact w.elim
def rStarts:V->List V->Hp->VK->Prop:=λx vs H Q=>∃a b,x = .str a/\vs=[.str b]/\Q (.bl (Txt.startswith a b)) H
theorem mt_starts:MtR X "str.startswith" rStarts:=by
 intro pins s Y H x xs v us Q I rx r h
 obtain⟨a,b,rfl,rfl,q⟩:=h
 obtain⟨t,rfl⟩:=rx
 obtain⟨u,rfl,ru⟩:=vals1 r
 obtain⟨t',rfl⟩:=ru
 exact PySem.SC.startswith ⟨.bl _,H,I,rfl,q⟩
def dStarts (E Ec:DE):DE:=λG P=>E G λd=>match d with
 | .str x=>Ec G λl=>match l with
  | .str y=>P (.bl (Txt.startswith x y))
  |_=>False
 |_=>False
theorem sF_starts (h:SimB K te E)(ha:SimB K ta El): SimF K (tBM K "str" rStarts te (tCons ta tNil)) (dStarts E El):=λF0 H0 F H Y G P Q e w q=>h F0 H0 F H Y G _ _ e w λd v F1 H1 w1 x1 r1=>by
 split at w1
 .rename_i x
  cases (show v=V.str x from r1)
  refine⟨rfl,ha F0 H0 F1 H1 Y G _ _ (e.on x1) w1 λl u F2 H2 w2 x2 r2=>?_⟩
  split at w2
  .rename_i y
   cases (show u=V.str y from r2)
   exact⟨x,y,rfl,rfl,q _ _ F2 H2 w2 (x1.trans x2) rfl⟩
  .exact w2.elim
 .exact w1.elim
end
open PySem PySem.Spec PyProof.Rows PyProof.V PySem.W
section
variable {X:Cx}
end
section
variable {K:Frag}{X:Cx}
def dFstr (x:Str)(E:DE):DE:=λG P=>E G λd=>match d with
 | .str y=>(∀c∈y.cps.toList,c<16^8)/\x.length+10*y.length+2<=1000000/\∀z,P (.str z)
 |_=>False
def rUpper:V->List V->Hp->VK->Prop:=λx xs H Q=>∃a,x = .str a/\xs=[]/\(Txt.upper a).length<=1000000/\Q (.str (Txt.upper a)) H
theorem mt_upper:MtR X "str.upper" rUpper:=by
 intro pins s Y H x vs v us Q I rx rv h
 obtain⟨a,rfl,rfl,hl,q⟩:=h
 obtain⟨t,rfl⟩:=rx
 cases rv
 refine PySem.W.KXw.upper rfl ?_ λt'' k=>⟨.str _,H,I.tok k,⟨_,rfl⟩,q⟩
 have:=sz_le hl
 exact decide_eq_false (by lia)
def dUpper (E:DE):DE:=λG P=>E G λd=>match d with
 | .str x=>(Txt.upper x).length<=1000000/\P (.str (Txt.upper x))
 |_=>False
theorem sF_upper {to:TE}{E:DE}(h:SimB K to E):SimF K (tBM0 K "str" rUpper to) (dUpper E):=λF0 H0 F H Y G P Q e w q=>h F0 H0 F H Y G _ _ e w λd v F1 H1 w1 x1 r1=>by
 split at w1
 .have e1:v=_:=r1
  subst e1
  exact⟨rfl,_,rfl,rfl,w1.1,q _ _ F1 H1 w1.2 x1 rfl⟩
 .exact w1.elim
end
section
variable {M:Model}{A:Around}{E:Value->Shared->Prop}{s:Shared}
theorem setFlight_anyW {Q:Unit->Shared->Prop}(fr:Option Addr)
  (hkb:base.StaysIn s.heap) (hl:s.heap.FunFrames base l) (ht:s.heap.TracedAtW base e cls a0 fl)
  (h:∀h',base.StaysIn h'->h'.FunFrames base l->h'.TracedAtW base e cls a0 (fr.elim .none λf=>rawInt f)->s.heap.UpToSlots h'->Q () {s with heap:=h'}):
  wpAny M A (setFlight (.ref e) fr) Q E s:=by
 obtain⟨oe,vs,T,oT,ts,he,hcls,hd,h1,hnT,hTe,hT,hdT,h3⟩:=ht
 have hsz3:3<ts.size:=(Array.getElem?_eq_some_iff.mp h3).1
 have other:∀b,b≠T->(s.heap.update T (Obj.mapFields (·.setIfInBounds 3 (fr.elim Value.none λf=>rawInt f)))).get? b=s.heap.get? b:=
  λb hb=>get?_update_other _ _ (Ne.symm hb)
 have noRecord:∀b o,s.heap.get? b=some o->(∀vs,o.data≠.fields vs)->b≠T:=λb o hb hnf q=>by
  rw[q,hT]at hb;injection hb with hb;subst hb;exact hnf ts hdT
 refine wpAny_bind (wpAny_field he hd h1 ?_)
 refine wpAny_setField hT hdT hsz3 (h _ (λb o hbo=>(other b λq=>by rw[q,hnT]at hbo;cases hbo).trans (hkb b o hbo))
  (hl.of_keeps λb o hb hnf=>⟨o,(other b (noRecord b o hb hnf)).trans hb,rfl⟩) ?_ λb o hb hnf=>⟨o.slots,(other b (noRecord b o hb hnf)).trans hb⟩)
 exact⟨oe,vs,T,_,_,(other e (Ne.symm hTe)).trans he,hcls,hd,h1,hnT,hTe,get?_update_self _ hT (Obj.isFreed_of_fields (Obj.data_mapFields hdT _)),Obj.data_mapFields hdT _,by simp[hsz3]⟩
theorem leaves_anyW {Q:Unit->Shared->Prop}
  (hfr:A.frames=some (env::outer)) (hf:env.frame=some L) (hkb:base.StaysIn s.heap) (hen:base.get? e=none) (hl:s.heap.FunFrames base (env::outer)) (ht:s.heap.TracedAtW base e cls a0 fl)
  (hQ:∀h',Heap.FlyingW base outer e cls a0 h'->s.heap.UpToSlots h'->Q () {s with heap:=h'}): wpAny M A (leaving env (.ref e)) Q E s:=by
 by_cases hfl:fl=rawInt L
 .subst hfl
  refine wpAny_bind (wpAny_noteFrame_againW hf ht ?_)
  refine wpAny_landsW ⟨hkb,hen,hl,ht⟩ λh' hfl sm=>?_
  obtain⟨k1,k2,⟨_,_,k3⟩,k4⟩:=hfl
  exact hQ h' ⟨k1,k2,k3,k4⟩ sm
 .obtain ⟨oe,vs,T,oT,ts,he,⟨hcls,h0⟩,hd,h1,hnT,hTe,hT,hdT,h3⟩:=ht
  subst hcls
  unfold leaving noteFrame
  simp only[hf]
  refine wpAny_bind (wpAny_bind (wpAny_field he hd h1 ?_))
  refine wpAny_bind (wpAny_field hT hdT h3 ?_)
  rw[if_neg (show ¬ ((fl==rawInt L)=true) from by simpa using hfl)]
  refine wpAny_bind (wpAny_setField hT hdT (Array.getElem?_eq_some_iff.mp h3).1 ?_)
  have other:∀b,b≠T->(s.heap.update T (Obj.mapFields (·.setIfInBounds 3 Value.none))).get? b=s.heap.get? b:=λb hb=>get?_update_other _ _ (Ne.symm hb)
  have noRecord:∀b o,s.heap.get? b=some o->(∀vs,o.data≠.fields vs)->b≠T:=λb o hb hnf q=>by
   rw[q,hT]at hb;injection hb with hb;subst hb;exact hnf ts hdT
  refine wpAny_newEntryW hfr (hl.of_keeps λb o hb hnf=>⟨o,(other b (noRecord b o hb hnf)).trans hb,rfl⟩) hf ((other e (Ne.symm hTe)).trans he)
   (λb o hbo=>(other b λq=>by rw[q,hnT]at hbo;cases hbo).trans (hkb b o hbo)) hen hd (Array.getElem?_eq_some_iff.mp h1).1 h0
   λh' ⟨x1,⟨_,_,x2⟩,x3,x4⟩=>hQ h' ⟨x1,hen,x2,x3⟩ λb o hb hnf=>x4 b o ((other b (noRecord b o hb hnf)).trans hb) hnf
end
theorem funFrames_but {base h h':Heap}{C:Addr}(k:∀b,b≠C->h'.get? b=h.get? b):∀{l:List Env},h.FunFrames base l->C∉frs l->h'.FunFrames base l
 | [],_,_=>trivial
 |env::l,⟨hk,⟨L,o,hf,hn,ho,hd⟩,hr⟩,hC=>⟨hk,⟨L,o,hf,hn,(k L λz=>hC (mem_filterMap.mpr ⟨env,mem_cons_self,z▸hf⟩)).trans ho,hd⟩,funFrames_but k hr λz=>by
  obtain⟨e,he,hb⟩:=mem_filterMap.mp z
  exact hC (mem_filterMap.mpr ⟨e,mem_cons_of_mem _ he,hb⟩)⟩
section
variable {P:Program}{w:World}{K:Frag}{mg:Str->Option Value}{base:Heap}{N:List Str}{qual:Str}{scope:Scope}{f:Addr}{cd:Value}{A:Around}{outer:List Env}{s:Shared}{H:Hp}{E:XK}
theorem pass_leaves {pins:List (Addr×Obj)}{Y:St}{H1 H':Hp}{s1 s':Shared}{a C0 C:Addr}{a0:Value}{B h4 h5:Heap}{oC:Obj}(I:Inv (cxOf (CXE P w) P w K mg base N qual scope f cd A outer s H E) pins Y H1 s1)
  (hE:E (.ref C0) none H') (fl:Heap.FlyingW B (envOfC qual scope s.heap.objs.size f cd::outer) a (.ref C0) a0 s'.heap)
  (agree:∀b o,s'.heap.get? b=some o->b∉frs (envOfC qual scope s.heap.objs.size f cd::outer)->((∃o0,s1.heap.get? b=some o0)∨∃u,H' b=some u)->B.get? b=some o)
  (un:Un (frs (envOfC qual scope s.heap.objs.size f cd::outer)) [] H1 H' s1.heap s'.heap) (hok:HOk P w H' s'.heap) (bare:AllBare s'.gens) (hos:s'.os=s1.os) (hna:H' a=none)
  (hC:s1.heap.get? C=some oC) (hCd:∀vs,oC.data≠.fields vs) (hCH:H1 C=none) (hCf:C∉frs (envOfC qual scope s.heap.objs.size f cd::outer)) (hCs:s.heap.objs.size<=C)
  (held:Heap.HeldW B (envOfC qual scope s.heap.objs.size f cd::outer) a (.ref C0) a0 s.heap.objs.size h4) (sm:s'.heap.UpToSlots h4) (hsb:Heap.SameBut C h4 h5) (cenv:Env):
  wpAny (model P w) (A.deeper (envOfC qual scope s.heap.objs.size f cd)) (PySem.passOn "comprehension.variables-let-go" (.ref a) cenv:Sem Value) (λ_ _=>False) (cxOf (CXE P w) P w K mg base N qual scope f cd A outer s H E).xe {s' with heap:=h5}:=by
 have hCB:B.get? C=some oC:=agree C oC (un.keep C oC hC hCH hCf (by simp)) hCf (.inl ⟨oC,hC⟩)
 have hC4:h4.get? C=some oC:=held.1 C oC hCB
 obtain⟨f1,f2,f3,oe,vs,T,oT,ts,he,hcls,hd,h1,hnT,hTe,hT,hdT,h3⟩:=PySem.W.heldW_base (base:=hideAll B [C]) (λb o q=>of_hideAll _ q) held
 have haC:a≠C:=λz=>by rw[z,hC4]at he;cases he;exact hCd vs hd
 have hTC:T≠C:=λz=>by rw[z,hC4]at hT;cases hT;exact hCd ts hdT
 have k1:(hideAll B [C]).StaysIn h5:=λb o q=>by
  have hb:b≠C:=λz=>by rw[z,hideAll_none [C] mem_cons_self]at q;cases q
  exact (hsb.2 b hb).trans (f1 b o q)
 have k2:=funFrames_but (λb hb=>hsb.2 b hb) f3 hCf
 have k3:h5.TracedAtW (hideAll B [C]) a (.ref C0) a0 (rawInt s.heap.objs.size):=⟨oe,vs,T,oT,ts,(hsb.2 a haC).trans he,hcls,hd,h1,hnT,hTe,(hsb.2 T hTC).trans hT,hdT,h3⟩
 refine wpAny_bind (wpAny_field ((hsb.2 a haC).trans he) hd h1 ?_)
 have go:wpAny (model P w) (A.deeper (envOfC qual scope s.heap.objs.size f cd)) (do setFlight (.ref a) cenv.frame;throw (.ref a):Sem Value) (λ_ _=>False) (cxOf (CXE P w) P w K mg base N qual scope f cd A outer s H E).xe {s' with heap:=h5}:=by
  refine wpAny_bind (setFlight_anyW cenv.frame k1 k2 k3 λh6 y1 y2 y3 y4=>wpAny_throw ?_)
  refine leaves_anyW I.ok.frames rfl y1 f2 y2 y3 λh7 z1 z2=>leave_core (s':=s') (Z:=[C]) I hE z1 (λb o q hb hz hc=>hideAll_get [C] (agree b o q hb hc) hz) (λb o hb q=>?_) (λb z=>by rw[mem_singleton.mp z];exact⟨hCs,un.free C oC hC hCH (by simp)⟩) un hok bare hos hna
  have hn:∀vs,o.data≠.fields vs:=by
   obtain⟨_,o',ho',hd⟩:=fl.2.2.1.mem hb
   rw[q]at ho';cases ho';exact hd
  obtain⟨sl1,q1⟩:=sm b o q hn
  obtain⟨sl2,q3⟩:=y4 b _ ((hsb.2 b (λz=>hCf (z▸hb))).trans q1) hn
  obtain⟨sl3,q4⟩:=z2 b _ q3 hn
  exact⟨sl3,q4⟩
 first |exact go |exact wpAny_bind (wpAny_pure go)
end
def tCalX (sp:Sp)(E:XK)(t:TA):TE:=λY H Q=>t Y H λvs H1=>sp vs H1 Q λcls _ H2=>E cls none H2
def tCompX (wi:TI)(ix:List (Option Nat))(g:TG)(ta:TA)(sp:Sp)(E:XK):TE:=tComp wi ix g (tCalX sp E ta)
section
variable {P:Program}{w:World}{K:Frag}{mg:Str->Option Value}{base:Heap}{N0:List Str}{qual:Str}{scope0:Scope}{f:Addr}{cd:Value}{A:Around}{outer:List Env}{s0:Shared}{H0:Hp}{E:XK}
variable {X:Cx}{tg iter e:Expr}{es:List Expr}{scope:Scope}{N:List Str}{ix:List (Option Nat)}{wi:TI}{g:TG}{ta:TA}{pos p cpos:Pos}{x:Str}{k:Nat}{ps:List Str}{sp:Sp}
theorem comp_elX {use:Option (Value->Sem Unit)}{Qv:Value->Shared->Prop}(hX:X=cxOf (CXE P w) P w K mg base N0 qual scope0 f cd A outer s0 H0 E)
  (C:CalX X.prog X.w X.K X.mg X.base x k ps sp) (hr:Room k X.A) (hgl:∀fp s H,Gl (X.blk scope N fp s H) x) (ha:∀fp s H,PA (X.blk scope N fp s H) (e::es) ta)
  (hdb:(x==("__debug__":Str))=false) (hst:∀env,starEach (e::es) env=(false,eval e env)::starEach es env) (hpl:∀env,(backTo cpos (starEach es env)).any (·.1)=false)
  (I3:Inv X pins Y H3 s3) (f3:∀b∈fp,FpOk X pins H3 b) (I7:Inv (X.blk scope N fp s3 H3) pins' Y7 H7 s7) (q7:tCalX sp E ta Y7 H7 Q'):
  wpAny (model X.prog X.w) X.A (eval (.Call (.Name x p) (e::es) [] cpos) (compEnvC scope (freeL scope X.env) s3.heap.objs.size X.env)) (EP (X.blk scope N fp s3 H3) pins' Y7 Q') (notedBy (model X.prog X.w) X.A (compEnvC scope (freeL scope X.env) s3.heap.objs.size X.env) λe s'=>compPost (model X.prog X.w) X.A X.xe use Qv acc s3.heap.objs.size (.error e) s') s7:=by
 obtain⟨fa,fd,F,hm,hk,hb⟩:=C.ex
 refine wpAny_Call_Name_kw (ld_glob I7 (hgl fp s3 _) hm ?_ hdb)
 refine callWith_K I7.ok.mod.kin hk (wpAny_mono (ha fp s3 _ cpos _ s7 Y7 H7 _ I7 q7) (λus s8 ⟨vs,H8,I8,r8,q8⟩=>⟨I8.kIn,?_⟩) λe s' z=>z.elim) (hst _) (hpl _)
 have hl:(us++[]).length=ps.length:=by rw[append_nil,<- r8.length];exact F.len _ _ _ _ q8
 have hbt:=hb s8 us I8.kIn hl
 rw[append_nil]at hbt
 refine wpAny_call (codeAny_mono (F.run X.A X.stack s8 H8 ⟨us,[]⟩ us vs _ _ hr I8.env0 hbt r8 q8) λres s9 hq=>?_)
 cases res with
 |ok fl=>
  cases fl with
  |ret yv=>
   obtain⟨y,H9,I9,r9,z⟩:=I8.after hq
   exact⟨y,H9,I9,r9,z⟩
  |_=>exact False.elim hq
 |error ev=>
  obtain⟨a,C1,a0,B,H9,rfl,hE,fl,agree,un,hok,bare,hos,hna⟩:=hq
  have J8:Inv X pins Y H8 s8:=I3.unblk f3 I8
  obtain⟨m,hn,_⟩:=I8.loc
  have hfree:H8 s3.heap.objs.size=none:=I8.free
  have hCf:s3.heap.objs.size∉frs X.stack:=λz=>by
   obtain⟨_,o,ho,_⟩:=I3.stack.mem z
   exact absurd (lt_size ho) (lt_irrefl _)
  have hLs:X.env.locals<=s3.heap.objs.size:=by
   obtain⟨m3,hn3,_⟩:=I3.loc
   exact le_of_lt hn3.lt
  subst hX
  show wpAny _ _ (noteFrame (.ref a) (envOfC qual scope0 s0.heap.objs.size f cd)) _ _ s9
  have hfr:(A.deeper (envOfC qual scope0 s0.heap.objs.size f cd)).frames=some (envOfC qual scope0 s0.heap.objs.size f cd::outer):=I3.ok.frames
  refine wpAny_looks_onW hfr rfl fl λh4 held4 sm4=>?_
  obtain⟨oC,es',ep,ho,hd,hr'⟩:=id hn
  have hCd:∀vs,oC.data≠.fields vs:=λvs q=>by rw[hd]at q;cases q
  have h4C:h4.get? s3.heap.objs.size=some oC:=held4.1 _ _ (agree _ _ (un.keep _ _ ho hfree hCf (by simp)) hCf (.inl ⟨_,ho⟩))
  exact⟨m,⟨oC,es',ep,h4C,hd,hr'⟩,λh5 hsb cenv _=>pass_leaves J8 hE fl agree un hok bare hos hna ho hCd hfree hCf hLs held4 sm4 hsb cenv⟩
theorem pe_compX (hX:X=cxOf (CXE P w) P w K mg base N0 qual scope0 f cd A outer s0 H0 E)(hi:PI X tg iter wi)(S:BlkScope X.env.scope scope)(cap:CapOf X scope N ix)
  (hg:∀fp s H,PG (X.blk scope N fp s H) tg g) (C:CalX X.prog X.w X.K X.mg X.base x k ps sp) (hr:Room k X.A) (hgl:∀fp s H,Gl (X.blk scope N fp s H) x) (ha:∀fp s H,PA (X.blk scope N fp s H) (e::es) ta)
  (hdb:(x==("__debug__":Str))=false:=by decide) (hst:∀env,starEach (e::es) env=(false,eval e env)::starEach es env:=by intro _;rfl) (hpl:∀env,(backTo cpos (starEach es env)).any (·.1)=false:=by intro _;rfl)
  (hs:∀x,foldedSetIterable iter X.env x=pure x:=by intro _;rfl): PE X (.ListComp (.Call (.Name x p) (e::es) [] cpos) [⟨tg,iter,[],0⟩] scope pos) (tCompX wi ix g ta sp E):=by
 intro pins s Y H Q I h
 refine wpAny_comprehension_free rfl hs (blk_clos S I.ok) S.kind S.names (comp_coreG (te:=tCalX sp E ta) (RR:=λacc C=>compPost (model X.prog X.w) X.A X.xe none (EP X pins Y Q) acc C) (by rw[hX];rfl) hi S cap hg I h (λ_ _ _ _ _ _ _ _ _ I3 f3 I7 q7=>comp_elX hX C hr hgl ha hdb hst hpl I3 f3 I7 q7) λD C H' s' I' f' hn q=>?_)
 obtain⟨m,hn⟩:=hn
 exact⟨m,hn,λh' hs'=>⟨.ref D,H',I'.frameGone f' hs',rfl,q⟩⟩
end
def CmpX (δ:D->Dst->(Dst->Prop)->Prop)(As:DA)(n:Nat)(sp:DSpX)(Xc:Str->Prop)(ds:List D)(G:Dst)(P:OV->Prop):Prop:=∃W:Nat->Dst->List OV->Prop,W 0 G []/\
 (∀i d G ts,ds[i]?=some d->W i G ts->ts.length<1000000/\δ d G λG'=>As G' λas=>as.length=n/\sp as (λr=>W (i+1) G' (ts++[r])) Xc)/\∀G ts,W ds.length G ts->P (.nl ts)
def dCompX (I:DA)(ix:List (Option Nat))(δ:D->Dst->(Dst->Prop)->Prop)(As:DA)(n:Nat)(sp:DSpX)(Xc:Str->Prop):DO:=λG P=>I G λds=>CmpX δ As n sp Xc ds (blkD ix G) P
def SimOx (K:Frag)(F0 H0:Hp)(t:TE)(E:DO):Prop:=∀F H Y G P Q,EnvR K F0 H0 F H Y G->E G P->(∀r v F' H',P r->Ext F H F' H'->RepN K H F' H' r v->Q v H')->t Y H Q
section
variable {K:Frag}{F0 H0:Hp}
theorem sP_compX {δ:D->Dst->(Dst->Prop)->Prop}{Xc:Str->Prop}(hx:∀c C F' H',Xc c->nsIn K mainGlobals c=some (some (.ref C))->Ext F0 H0 F' H'->E (.ref C) none H')
  (hi:SimI K wi I) (hg:SimG K g δ) (ha:SimAF K ta As): SimOx K F0 H0 (tCompX wi ix g ta (spX K n sp) E) (dCompX I ix δ As n sp Xc):=λF H Y G P Q e w q=>
 hi F0 H0 F H Y G _ _ e w λds J F1 H1 p x1 hJ=>by
  intro L hL
  have x01:=EnvR.ext (e.on x1)
  obtain⟨A,e⟩:=e.on x1
  obtain⟨W,w0,ws,wd⟩:=p
  have f1:Same F1 H1:=x1.fh
  refine⟨λi m Y ys H=>m=ds.length-i/\i<=ds.length/\∃F G ts B,ER K F1 H1 F H Y G (λ_=>[])/\W i G ts/\F L=none/\H L=some (.lst ys)/\RepOs K F H ts ys B/\(L::B).Nodup/\∀b∈B,H1 b=none/\F b=none,
   ⟨ds.length,rfl,zero_le _,F1,_,[],[],e.blk ix (Same.new hL),w0,f1.free hL,upd_same,⟨rfl,rfl⟩,by simp,λ_ h=>by cases h⟩,?_⟩
  rintro i m Y2 ys H2 ⟨rfl,hil,F2,G2,ts,B,e2,w2,l1,l2,hr,nd,nw⟩
  obtain⟨j1,j2,j3⟩:=hJ F2 H2 e2.ext.ff e2.ext.fh
  by_cases hlt:i<ds.length
  .obtain ⟨d0,hd0⟩:∃d,ds[i]?=some d:=⟨_,getElem?_eq_getElem hlt⟩
   have hl:=hr.length
   refine .inr ⟨sz_lt (by have:=(ws i d0 G2 ts hd0 w2).1;lia),j1 i hlt,λx H3 y=>?_⟩
   obtain⟨d,F3,hd,x3,r3⟩:=j3 i x H3 hlt y
   refine hg F1 H1 F3 H3 Y2 G2 (λ_=>[]) d x _ _ (e2.on x3) r3 (ws i d G2 ts hd w2).2 λY4 G4 A4 w4 e4 sub=>?_
   have e4':ER K F1 H1 F3 H3 Y4 G4 (λ_=>[]):=by
    have:A4=λ_=>[]:=funext λk=>List.eq_nil_iff_forall_not_mem.mpr λb hb=>by cases sub k b hb
    rw[this]at e4;exact e4
   refine ha F1 H1 F3 H3 Y4 G4 _ _ ⟨_,e4'⟩ w4 λas vs F4 H4 w5 x4 r4=>?_
   refine⟨by rw[<- r4.length];exact w5.1,F4,as,_,_,x4.fh,r4,w5.2,λr v F5 H5 p5 x45 n5=>?_,λc C F5 H5 p5 hC x45=>hx c C F5 H5 p5 hC (x01.trans ((e4'.on x4).on x45).ext)⟩
   have x5:=x4.trans x45
   have n5:=n5.old x4.hh
   have x25:=x3.trans x5
   have l5:=x25.hh _ _ l2
   have l5f:=x25.no L _ l1 l2 rfl
   refine⟨l5,ds.length-(i+1),by lia,rfl,hlt,F5,G4,ts++[r],?_⟩
   obtain⟨C,c1,c2,c3⟩:=n5
   obtain⟨n1,n2⟩:=nodup_cons.mp nd
   have hLC:L∉C:=λz=>by
    have q:=(c3 L z).1
    rw[x3.hh _ _ l2]at q;cases q
   have hBC:∀b,b∈B->b∉C:=λb hb z=>by
    obtain⟨xs,q,himm⟩:=hr.isl b hb
    have:=(c3 b z).1
    rw[x3.hh _ _ q]at this;cases this
   have e5:=e4'.on x5
   refine⟨B++C,⟨e5.len,⟨e5.ext.ff,λb o h=>?_,λb o h=>?_,e5.ext.no⟩,λj t hj=>?_,e5.bw,e5.nod,e5.dis,λ_ _ h=>by cases h⟩,p5,l5f,upd_same,?_,?_,λb hb=>?_⟩
   .exact upd_off (λz=>by rw[z,hL]at h;cases h) (e5.ext.hh _ _ h)
   .exact upd_off (λz=>by rw[z,l5f]at h;cases h) (e5.ext.fh _ _ h)
   .obtain ⟨u,h1,h2⟩:=e5.own j t hj
    exact⟨u,h1,h2.frame (Same.refl _) λ_ z=>by cases z⟩
   .exact RepOs.append (hr.frame x25.ff λb hb xs z=>upd_off (λq=>n1 (by rw[<- q];exact hb)) (x25.hh _ _ z)) (RepOs.one (c1.frame (Same.refl _) λb hb xs z=>upd_off (λq=>hLC (by rw[<- q];exact hb)) z))
   .refine nodup_cons.mpr ⟨λz=>?_,nodup_append.mpr ⟨n2,c2,λx hx y hy z=>by subst z;exact hBC x hx hy⟩⟩
    rcases mem_append.mp z with z |z
    .exact n1 z
    .exact hLC z
   .rcases mem_append.mp hb with z |z
    .obtain ⟨xs,qq,himm⟩:=hr.isl b z
     exact⟨(nw b z).1,x25.no b _ (nw b z).2 qq himm⟩
    .exact ⟨(e2.ext.hh.trans x3.hh).free (c3 b z).1,(c3 b z).2⟩
  .have hi':i=ds.length:=by lia
   subst hi'
   refine .inl ⟨j2,q _ _ F2 H2 (wd _ _ w2) (x1.trans e2.ext) ⟨L::B,⟨L,ys,B,rfl,rfl,l2,hr⟩,nd,λb hb=>?_⟩⟩
   rcases mem_cons.mp hb with rfl |z
   .exact ⟨x1.hh.free hL,l1⟩
   .exact ⟨x1.hh.free (nw b z).1,(nw b z).2⟩
end
open PySem PySem.Spec PyProof.Rows
section
variable {X:Cx}{K:Frag}
end
open PySem PySem.Spec PyProof.Rows PyProof.V PySem.W
section
variable {K:Frag}{h:Heap}{mg:Str->Option Value}{x m q c:Str}{st:Stmt}{f T C:Addr}{od an odT:Option Addr}{sl slT:Array (Option Value)}{oc kV dc pm cd ct ocT:Value}{nT:Nat}{ds:Array Value}
theorem dmk (X:K.In h)(δ:h.Ns mainGlobals mg)(a:nsIn K mainGlobals x=some (some (.ref f)):=by k_is)(l:K.lookup f=some ⟨oc,od,.func (fnOf x x (defArgs st) (defBody st) (defScope st) .none kV dc pm an cd ct),sl⟩:=by k_is)(d:codeIn K cd x=true:=by k_is)(k:keepIn K (.ref f)=true:=by k_is):
  DefAt K mg x st f (fnOf x x (defArgs st) (defBody st) (defScope st) .none kV dc pm an cd ct):=⟨fun_mk l d k,mg_of X δ a⟩
theorem dnm (X:K.In h)(δ:h.Ns mainGlobals mg)(a:nsIn K mainGlobals x=some (some (.ref f)):=by k_is): NsOf K mg x:=⟨_,a,mg_of X δ a⟩
theorem dcls (X:K.In h)(aC:nsIn K mainGlobals c=some (some (.ref C)):=by k_is)(pg:plainGet K C Str.empty=true:=by k_is)(hd:PySem.W.hasDictIn K C=true:=by k_is)(po:plainOver K C=true:=by k_is)(sa:PySem.W.findIn K (.ref C) "__setattr__"=some (some (.builtin "object.__setattr__")):=by k_is)(hn:∀f∈ns,PySem.W.findIn K (.ref C) f=some none)(h1:ns.Nodup)(h2:ns.length<1000): ClsV K c ns:=
 ⟨⟨C,aC,⟨pg,hd,po,sa⟩,hn⟩,h1,h2⟩
theorem dini (X:K.In h)(δ:h.Ns mainGlobals mg)(aC:nsIn K mainGlobals c=some (some (.ref C)):=by k_is)(mk:makesIn K C=true:=by k_is)(kc:keepIn K (.ref C)=true:=by k_is)(a:PySem.W.findIn K (.ref C) "__init__"=some (some (.ref f)):=by k_is)(i:isFn K (.ref f)=true:=by k_is)(l:K.lookup f=some ⟨oc,od,.func (fnOf "__init__" q (defArgs st) (defBody st) (defScope st) .none kV dc pm an cd ct),sl⟩:=by k_is)(d:codeIn K cd q=true:=by k_is)(k:keepIn K (.ref f)=true:=by k_is):
  Fun K "__init__" q st f (fnOf "__init__" q (defArgs st) (defBody st) (defScope st) .none kV dc pm an cd ct)/\MakAt K mg c f:=⟨fun_mk (x := "__init__") l d k,⟨⟨_,aC,⟨mk,a,i,kc⟩,mg_of X δ aC⟩⟩⟩
theorem mz (X:K.In h)(δ:h.Ns mainGlobals mg)(e:nsIn K mainGlobals n=some none:=by k_is): mg n=none:=PySem.W.mg_none_of X δ e
theorem mv (X:K.In h)(δ:h.Ns mainGlobals mg)(e:nsIn K mainGlobals n=some (some v):=by k_is): mg n=some v:=mg_of X δ e
theorem lawF (Df:DefAt K mg x st f fd)(hb:∀(s:Shared) (v:Value),BindsTo s fd ⟨[v],[]⟩ [("_law_script",v)])(hc:∀base:Heap,K.In base->base.Ns mainGlobals mg->FnOk P w K mg base CX0 k f fd ["_law_script"] sp):
  ∃fd:FuncData,(∀(s:Shared) (v:Value),BindsTo s fd ⟨[v],[]⟩ [("_law_script",v)])/\∀base:Heap,K.In base->base.Ns mainGlobals mg->FnOk P w K mg base CX0 k f fd ["_law_script"] sp:=⟨fd,hb,hc⟩
end
section
variable {K:Frag}
end
def neAD:DR2:=λx y P=>rNeD x y P∨neND x y P
def rOr (r s:R2):R2:=λv u H Q=>r v u H Q∨s v u H Q
section
variable {X:Cx}
theorem op_neA (hu:X.A.units+64<cLine):OpR X (compareOp .NotEq) (rOr rNe (rNeN X.K)):=by
 intro pins s Y H v u a b Q I ra rb h
 rcases h with h |h
 .exact op_ne pins s Y H v u a b Q I ra rb h
 .exact op_neN hu pins s Y H v u a b Q I ra rb h
end
section
variable {K:Frag}
theorem oS_neA:OpS K (rOr rNe (rNeN K)) neAD:=λF H x y v u P Q s rx ry w q=>by
 rcases w with w |w
 .exact .inl (oS_ne F H x y v u P Q s rx ry w q)
 .exact .inr (oS_neN F H x y v u P Q s rx ry w q)
end
section
variable {K:Frag}
def spB (K:Frag)(n:Nat)(sp:DSp):Sp:=spL n λvs H Q=>∃F d ds v us P,vs=v::us/\Same F H/\Rep K H d v/\Reps K F ds us/\sp (d::ds) P/\∀r v F' H',P r->Ext F H F' H'->RepN K H F' H' r v->Q v H'
def startB (N:List Str):List D->Dst
 | []=>[]
 |d::ds=>some (.bw d)::startV N.tail ds
theorem startB_er {H F:Hp}{N:List Str}{d:D}{ds:List D}{v:V}{us:List V}(s:Same F H)(h0:Rep K H d v)(h:Reps K F ds us):ER K F H F H (start N (v::us)) (startB N (d::ds)) (λ_=>[]):=by
 have e:=startV_er (N:=N.tail) s h
 have eq:start N (v::us)=some v::start N.tail us:=by
  unfold start
  rw[map_cons,cons_append,length_cons,List.length_tail,Nat.sub_sub,Nat.add_comm 1]
 rw[eq]
 refine⟨by show (some v::start N.tail us).length=(some (Sl.bw d)::startV N.tail ds).length;rw[length_cons,length_cons,e.len],e.ext,λi t hi=>?_,λi d' hi=>?_,λ_=>nodup_nil,(λ_ _ _ _ h=>by cases h),(λ_ _ h=>by cases h)⟩
 .cases i with
  |zero=>cases hi
  |succ i=>exact e.own i t hi
 .cases i with
  |zero=>cases hi;exact⟨v,rfl,h0⟩
  |succ i=>exact e.bw i d' hi
theorem CalB.of {P:Program}{w:World}{mg:Str->Option Value}{base:Heap}{x:Str}{st:Stmt}{f:Addr}{fd:FuncData}{N ps:List Str}{k n:Nat}{sp:DSp}(Df:DefAt K mg x st f fd)(S:FnScope N ps (defScope st))
  (hb:∀(kV doc pm:Value) (an:Option Addr) (cdv ct:Value) (us:List Value),us.length=ps.length->bindArgs (fnOf x x (defArgs st) (defBody st) (defScope st) .none kV doc pm an cdv ct) ⟨us,[]⟩=pure (ps.zip us)) (hn:n=ps.length)
  (hbody:∀(cdv:Value) (A:Around) (outer:List Env) (s:Shared) (H:Hp) (E:XK),Room k (A.deeper (envOfC x (defScope st) s.heap.objs.size f cdv))->
   ∃t T,PSs (cxOf CX0 P w K mg base N x (defScope st) f cdv A outer s H E).nox (defBody st) t/\SimS K t T/\∀ds Pr,sp ds Pr->T {nx:=λ_=>Pr (.fz .non),rt:=Pr} (startB N ds)):Cal P w K mg base x (k+1) ps (spB K n sp):=
 Cal.of Df S hb (λvs H Q E h=>by rw[<- hn];exact h.1) λcdv A outer s H vs Q E hr h=>by
  obtain⟨_,F,d,ds,v,us,Pr,rfl,hs,h0,hr',hsp,hq⟩:=h
  obtain⟨t,T,h1,h2,h3⟩:=hbody cdv A outer s H E hr
  refine⟨t,h1,h2 F H F H (start N (v::us)) (startB N (d::ds)) {nx:=λ_=>Pr (.fz .non),rt:=Pr} _ ⟨_,startB_er hs h0 hr'⟩ ⟨λF' H' Y G e p=>?_,λ_ _ _ _ _ z=>z.elim,λ_ _ _ _ _ z=>z.elim,λF' H' r v x n p=>hq r v F' H' p x n⟩ (h3 _ Pr hsp)⟩
  exact hq _ _ F' H' p e.ext (.fz rfl)
end
structure CalKX (P:Program) (w:World) (K:Frag) (mg:Str->Option Value) (base:Heap) (c:Str) (k:Nat) (ps:List Str) (sp:Sp):Prop where
 ex:∃C f fd,nsIn K mainGlobals c=some (some (.ref C))/\Mk K C f/\mg c=some (.ref C)/\FnOk P w K mg base (CXE P w) k f fd ps sp/\Binds K fd ps []
section
variable {X:Cx}
end
abbrev DMoX:=List OV->List D->(List OV->Prop)->(Str->Prop)->Prop
def spMX (K:Frag)(n:Nat)(c:Str)(ns:List Str)(sp:DMoX):Sp:=λvs H Q E=>vs.length=n/\∃F a C dx ts vs0 B rest ds P Xc,vs=V.ref a::rest/\nsIn K mainGlobals c=some (some (.ref C))/\Same F H/\H a=some (.ins C dx (ns.zip vs0))/\H dx=some (.own a)/\ts.length<=ns.length/\RepOs K F H ts vs0 B/\
 (a::dx::B).Nodup/\(∀b∈a::dx::B,F b=none)/\Reps K F ds rest/\sp ts ds P Xc/\
 (∀ts' F' H' dx' vs' B',P ts'->Same F F'->Same F' H'->(∀b o,b∉a::dx::B->H b=some o->H' b=some o)->(∀b o,F b=none->H b=some o->imm o=false->b∉a::dx::B->F' b=none)->H' a=some (.ins C dx' (ns.zip vs'))->H' dx'=some (.own a)->ts'.length<=ns.length->RepOs K F' H' ts' vs' B'->
  (a::dx'::B').Nodup->(∀b∈a::dx'::B',F' b=none/\(b∈a::dx::B∨H b=none))->Q .non H')/\
 ∀c C F' H',Xc c->nsIn K mainGlobals c=some (some (.ref C))->Ext F (λb=>if b∈a::dx::B then none else H b) F' H'->E (.ref C) none H'
section
variable {P:Program}{w:World}{K:Frag}{mg:Str->Option Value}{base:Heap}{c m q:Str}{ns:List Str}{st:Stmt}{f:Addr}{fd:FuncData}{N ps:List Str}{k n:Nat}
theorem okMX_of {sp:DMoX}(Fn:Fun K m q st f fd)(S:FnScope N ps (defScope st))(hn:n=ps.length)
  (hbody:∀(cdv:Value) (A:Around) (outer:List Env) (s:Shared) (H:Hp) (E:XK),Room k (A.deeper (envOfC q (defScope st) s.heap.objs.size f cdv))->∀(F H0:Hp) (Xc:Str->Prop),(∀c C F' H',Xc c->nsIn K mainGlobals c=some (some (.ref C))->Ext F H0 F' H'->E (.ref C) none H')->
   ∃t T,PSs (cxOf (CXE P w) P w K mg base N q (defScope st) f cdv A outer s H E) (defBody st) t/\SimX K F H0 t T/\∀(a:Addr) ts ds Pr,sp ts ds Pr Xc->T {nx:=λG=>∃ts',G[0]?=some (some (.own (.ob (some a) c ns ts')))/\Pr ts',rt:=λ_=>False} (startM N c ns a ts ds)):
  FnOk P w K mg base (CXE P w) (k+1) f fd ps (spMX K n c ns sp):=by
 obtain⟨oc,od,kV,doc,pm,an,cdv,ct,osl,rfl,lk,hcd⟩:=Fn.ex
 refine fn_of lk hcd S (λvs H Q E h=>by rw[<- hn];exact h.1) λA outer s H vs Q E hr h=>?_
 .obtain ⟨_,F,a,C,dx,ts,vs0,B,rest,ds,Pr,Xc,rfl,hC,hs,ha,hd,hlen,hB,hnd,hnf,hr',hsp,hq,hE⟩:=h
  obtain⟨t,T,h1,h2,h3⟩:=hbody cdv A outer s H E hr F _ Xc hE
  have hl:=hr'.length
  have er : ER K F (λb=>if b∈a::dx::B then none else H b) F H (start N (V.ref a::rest)) (startM N c ns a ts ds) (λj=>if j=0 then a::dx::B else []):=by
   refine⟨by simp[start,startM,hl],⟨Same.refl _,λb o z=>?_,hs,λ_ _ z _ _=>z⟩,λi t hi=>?_,λi d hi=>?_,λj=>?_,λj k b hjk y1 y2=>?_,λj b hb=>?_⟩
   .split at z
    .cases z
    .exact z
   .unfold startM at hi
    cases i with
    |zero=>
     simp at hi
     subst hi
     exact⟨.ref a,rfl,a,C,dx,vs0,B,rfl,rfl,hC,(λ_ z=>Option.some.inj z),ha,hd,hlen,hB⟩
    |succ i=>
     rw[getElem?_cons_succ]at hi
     by_cases z:i<ds.length
     .rw [getElem?_append_left (by simpa using z),getElem?_map,getElem?_eq_getElem z]at hi
      simp at hi
      subst hi
      obtain⟨v,g1,g2⟩:=hr'.get (getElem?_eq_getElem z)
      refine⟨v,?_,rfl,g2⟩
      unfold start
      rw[map_cons,cons_append,getElem?_cons_succ,getElem?_append_left (by simp;lia),getElem?_map,g1]
      rfl
     .rw [getElem?_append_right (by simpa using z)]at hi
      have:=mem_of_getElem? hi
      rw[mem_replicate]at this
      cases this.2
   .unfold startM at hi
    cases i with
    |zero=>simp at hi
    |succ i=>
     rw[getElem?_cons_succ]at hi
     by_cases z:i<ds.length
     .rw [getElem?_append_left (by simpa using z),getElem?_map]at hi
      simp at hi
     .rw [getElem?_append_right (by simpa using z)]at hi
      have:=mem_of_getElem? hi
      rw[mem_replicate]at this
      cases this.2
   .split
    .exact hnd
    .exact nodup_nil
   .split at y1
    .split at y2
     .lia
     .cases y2
    .cases y1
   .split at hb
    .refine ⟨hnf b hb,if_pos hb,?_⟩
     rcases mem_cons.mp hb with y |y
     .rw [y];exact⟨_,ha,rfl⟩
     .rcases mem_cons.mp y with y |y
      .rw [y];exact⟨_,hd,rfl⟩
      .exact hB.isl b y
    .cases hb
  refine⟨t,h1,h2 F H (start N (V.ref a::rest)) (startM N c ns a ts ds) {nx:=λG=>∃ts',G[0]?=some (some (.own (.ob (some a) c ns ts')))/\Pr ts',rt:=λ_=>False} _ ⟨_,er⟩ ⟨λF' H' Y G e p=>?_,λ_ _ _ _ _ z=>z.elim,λ_ _ _ _ _ z=>z.elim,λ_ _ _ _ _ _ z=>z.elim⟩ (h3 a ts ds Pr hsp)⟩
  obtain⟨A',e⟩:=e
  obtain⟨ts',h0,hp⟩:=p
  obtain⟨v,hv,a',C',dx',vs',B',rfl,eA,g0,go,g1,g2,g3,g4⟩:=e.own 0 _ h0
  obtain rfl:=go a rfl
  rw[hC]at g0
  cases g0
  have hn':=e.nod 0
  rw[eA]at hn'
  refine hq ts' F' H' dx' vs' B' hp e.ext.ff e.ext.fh (λb o y z=>?_) (λb o y1 y2 y3 y4=>?_) g1 g2 g3 g4 hn' (λb hb=>?_)
  .exact e.ext.hh b o (by rw[if_neg y];exact z)
  .exact e.ext.no b o y1 (by rw[if_neg y4];exact y2) y3
  .obtain ⟨z1,z2,_⟩:=e.new 0 b (by rw[eA];exact hb)
   refine⟨z1,?_⟩
   by_cases q:b∈a'::dx::B
   .exact .inl q
   .rw [if_neg q]at z2;exact .inr z2
theorem CalKX.of {sp:DMoX}(Df:Fun K m q st f fd)(Mf:MakAt K mg c f)(S:FnScope N ps (defScope st))
  (hb:∀(kV doc pm:Value) (an:Option Addr) (cdv ct:Value) (us:List Value),us.length=ps.length->bindArgs (fnOf m q (defArgs st) (defBody st) (defScope st) .none kV doc pm an cdv ct) ⟨us,[]⟩=pure (ps.zip us)) (hn:n=ps.length)
  (hbody:∀(cdv:Value) (A:Around) (outer:List Env) (s:Shared) (H:Hp) (E:XK),Room k (A.deeper (envOfC q (defScope st) s.heap.objs.size f cdv))->∀(F H0:Hp) (Xc:Str->Prop),(∀c C F' H',Xc c->nsIn K mainGlobals c=some (some (.ref C))->Ext F H0 F' H'->E (.ref C) none H')->
   ∃t T,PSs (cxOf (CXE P w) P w K mg base N q (defScope st) f cdv A outer s H E) (defBody st) t/\SimX K F H0 t T/\∀(a:Addr) ts ds Pr,sp ts ds Pr Xc->T {nx:=λG=>∃ts',G[0]?=some (some (.own (.ob (some a) c ns ts')))/\Pr ts',rt:=λ_=>False} (startM N c ns a ts ds)):
  CalKX P w K mg base c (k+1) ps (spMX K n c ns sp):=by
 obtain⟨C,hC,M,hm⟩:=Mf.cl
 exact⟨C,f,fd,hC,M,hm,okMX_of Df S hn hbody,Df.binds hb⟩
end
section
variable {K:Frag}
end
end L2
namespace PySem
open Builtin
end PySem
namespace L2
open PySem PySem.Spec PyProof.Rows PyProof.V PySem.W
section
variable {X:Cx}
end
section
variable {K:Frag}
end
section
variable {P:Program}{w:World}{K:Frag}{mg:Str->Option Value}{base:Heap}{N:List Str}
theorem CalXVE.of {x:Str}{st:Stmt}{f T:Addr}{fd:FuncData}{p0 p1 p2:Str}{k:Nat}{sp:DSpX}{e0 e1:Value}(Df:DefAtD K mg x st f fd T #[e0,e1])(S:FnScope N [p0,p1,p2] (defScope st))
  (hb:∀(kV doc pm:Value) (an:Option Addr) (cdv ct a b c:Value),∃k,bindArgs (fnOf x x (defArgs st) (defBody st) (defScope st) (.ref T) kV doc pm an cdv ct) ⟨[a,b,c],[]⟩=seqItems? (.ref T) >>= k/\k (some #[e0,e1])=pure [(p0,a),(p1,b),(p2,c)])
  (hbody:∀(cdv:Value) (A:Around) (outer:List Env) (s:Shared) (H:Hp) (E:XK),Room k (A.deeper (envOfC x (defScope st) s.heap.objs.size f cdv))->∀(F:Hp) (Xc:Str->Prop),(∀c C F' H',Xc c->nsIn K mainGlobals c=some (some (.ref C))->Ext F H F' H'->E (.ref C) none H')->
   ∃t T,PSs (cxOf (CXE P w) P w K mg base N x (defScope st) f cdv A outer s H E) (defBody st) t/\SimX K F H t T/\∀ds Pr,sp ds Pr Xc->T {nx:=λ_=>Pr (.fz .non),rt:=Pr} (startV N ds)):CalX P w K mg base x (k+1) [p0,p1,p2] (spX K 3 sp):=by
 obtain⟨oc,od,kV,doc,pm,an,cdv,ct,osl,rfl,lk,hcd⟩:=Df.ex
 obtain⟨o,m,ht,hs⟩:=Df.tup
 refine⟨f,_,fn_of lk hcd S (λvs H Q E h=>h.1) (λA outer s H vs Q E hr h=>?_),Df.here,Df.kp,?_⟩
 .obtain ⟨_,F,ds,Pr,Xc,hs,hr',hsp,hq,hE⟩:=h
  obtain⟨t,T,h1,h2,h3⟩:=hbody cdv A outer s H E hr F Xc hE
  refine⟨t,h1,h2 F H (start N vs) (startV N ds) {nx:=λ_=>Pr (.fz .non),rt:=Pr} _ ⟨_,startV_er hs hr'⟩ ⟨λF' H' Y G e p=>?_,λ_ _ _ _ _ z=>z.elim,λ_ _ _ _ _ z=>z.elim,λF' H' r v x n p=>hq r v F' H' p x n⟩ (h3 ds Pr hsp)⟩
  exact hq _ _ F' H' p e.ext (.fz rfl)
 .intro s us KX hl
  match us,hl with
  | [a,b,c],_=>
   obtain⟨k',z1,z2⟩:=hb kV doc pm an cdv ct a b c
   exact binds_K KX rfl ht hs z1 z2
end
def rInsert:V->List V->Hp->VK->Prop:=λx vs H Q=>∃l xs i y,x = .ref l/\vs=[.int i,y]/\H l=some (.lst xs)/\0<=i/\i<=(xs.length:Int)/\xs.length<sizeLine/\Q .non (upd H l (.lst (xs.take i.toNat++y::xs.drop i.toNat)))
section
variable {X:Cx}
theorem mt_insert:MtM X "list.insert" rInsert:=by
 intro pins s Y H x vs v us Q I rx rv h
 obtain⟨l,xs,i,y,rfl,rfl,hH,h0,h1,hz,q⟩:=h
 cases rx
 obtain⟨u1,u,rfl,ru1,ru⟩:=vals2 rv
 obtain⟨t,rfl⟩:=ru1
 obtain⟨z,its,n,r,hl,e⟩:=I.lstM hH
 have hs:=sizeLine_eq
 refine call_meets F.slot_list_insert ⟨_,e,rfl⟩ F.entry_list_insert (F.args_list_insert_3 _ _ _) (AutoSeq1.list_insert_list_int_val_1 l its.toArray n i t u (by rw[fitsIndex_both (by lia) (by lia)];decide) (by rw[size_toArray];lia)) ⟨e,?_⟩
 refine⟨.non,_,I.lset (its':=its.take i.toNat++u::its.drop i.toNat) hH e ?_ ((r.take _).append (.cons ru (r.drop _))) ?_,rfl,q⟩
 .have hk:(if i<0 then (i+((its.toArray.size:Nat):Int)).toNat else min i.toNat its.toArray.size)=i.toNat:=by
   rw[if_neg (by lia),size_toArray]
   lia
  rw[hk]
  simp
  exact List.take_of_length_le (by rw[length_drop];exact Nat.le_refl _)
 .rw [length_append,length_cons,length_take,length_drop]
  omega
end
theorem RepOs.split {K:Frag}{F H:Hp}:∀{ts:List OV} {vs:List V} {A:List Addr} (k:Nat),RepOs K F H ts vs A->∃B C,A=B++C/\RepOs K F H (ts.take k) (vs.take k) B/\RepOs K F H (ts.drop k) (vs.drop k) C
 | [],vs,A,k,h=>by
  obtain⟨rfl,rfl⟩:=h
  refine⟨[],[],rfl,?_,?_⟩
  .rw [List.take_nil,List.take_nil];exact⟨rfl,rfl⟩
  .rw [List.drop_nil,List.drop_nil];exact⟨rfl,rfl⟩
 |t::ts,vs,A,0,h=>⟨[],A,rfl,⟨rfl,rfl⟩,h⟩
 |t::ts,vs,A,k+1,h=>by
  obtain⟨v,r,B,C,rfl,rfl,h1,h2⟩:=h
  obtain⟨B',C',rfl,a,b⟩:=RepOs.split k h2
  exact⟨B++B',C',by rw[List.append_assoc],⟨v,_,B,B',rfl,rfl,h1,a⟩,b⟩
def sIns (i:Nat)(Ei:DE)(E:DO):DS:=λDe G=>match G[i]? with
 |some (some (.own (.nl ts)))=>ts.length<1000000/\Ei G λd=>match d with
  | .int k=>0<=k/\k<=ts.length/\E G λr=>De.nx (G.set i (some (.own (.nl (ts.take k.toNat++r::ts.drop k.toNat)))))
  |_=>False
 |_=>False
section
variable {K:Frag}{te ti:TE}{Eo:DO}{Ei:DE}
theorem sS_ins {i:Nat}(hi:SimB K ti Ei)(h:SimO K te Eo):SimS K (tDrop (tBM K "list" rInsert (tVar i) (tCons ti (tCons te tNil)))) (sIns i Ei Eo):=λF0 H0 F H Y G De En e l w=>by
 obtain⟨A,e⟩:=e
 unfold sIns at w
 split at w
 .rename_i ts hs
  obtain⟨pl,w⟩:=w
  obtain⟨v,hv,a,vs,B,rfl,eA,ha,hB⟩:=e.own i _ hs
  refine⟨_,hv,.inl ⟨rfl,_,SqL.of ha⟩,?_⟩
  refine hi F0 H0 F H Y G _ _ ⟨A,e⟩ w λd kv F1 H1 w1 x1 r1=>?_
  split at w1
  .rename_i k
   obtain⟨k0,k1,w1⟩:=w1
   refine h F0 H0 F1 H1 Y G _ _ ⟨A,e.on x1⟩ w1 λr u F2 H2 p x2 n=>?_
   have x12:=x1.trans x2
   obtain⟨C,c1,c2,c3⟩:=n
   have e2:=e.on x12
   have hl:=hB.length
   cases r1
   refine⟨a,vs,k,u,rfl,rfl,x12.hh _ _ ha,k0,by lia,sz_lt (by lia),?_⟩
   have hB1:RepOs K F2 H2 ts vs B:=hB.frame x12.ff λb _ xs z=>x12.hh _ _ z
   obtain⟨B1,B2,eB,s1,s2⟩:=hB1.split k.toNat
   subst eB
   have hnd:=e.nod i
   rw[eA]at hnd
   obtain⟨n1,n2⟩:=nodup_cons.mp hnd
   have hCA:∀j b,b∈C->b∉A j:=λj b hb z=>by
    obtain⟨_,_,xs,q,_⟩:=e.new j b z
    rw[x1.hh.free (c3 b hb).1]at q;cases q
   have haC:a∉C:=λz=>hCA i a z (by rw[eA];exact mem_cons_self)
   have mem1:∀b∈B1++B2,b∈A i:=λb hb=>by rw[eA];exact mem_cons_of_mem _ hb
   have memb:∀b∈B1++(C++B2),b∈B1++B2∨b∈C:=λb hb=>by
    rcases mem_append.mp hb with z |z
    .exact .inl (mem_append.mpr (.inl z))
    .rcases mem_append.mp z with z |z
     .exact .inr z
     .exact .inl (mem_append.mpr (.inr z))
   have fr:∀{ts':List OV} {vs':List V} {A':List Addr},(∀b∈A',b≠a)->RepOs K F2 H2 ts' vs' A'->RepOs K F2 (upd H2 a (.lst (vs.take k.toNat++u::vs.drop k.toNat))) ts' vs' A':=λhA' z=>z.frame (Same.refl _) λb hb xs q=>upd_off (hA' b hb) q
   refine l.nx F2 _ Y _ (e2.change i hv (t':=.nl (ts.take k.toNat++r::ts.drop k.toNat)) (B:=a::(B1++(C++B2))) ⟨a,vs.take k.toNat++u::vs.drop k.toNat,B1++(C++B2),rfl,rfl,upd_same,?_⟩ ?_ ?_ ?_ ?_) p
   .refine RepOs.append (fr (λb hb q=>n1 (by rw[<- q];exact mem_append.mpr (.inl hb))) s1) ⟨u,_,C,B2,rfl,rfl,c1.frame (Same.refl _) λb hb xs z=>upd_off (λq=>haC (by rw[<- q];exact hb)) z,fr (λb hb q=>n1 (by rw[<- q];exact mem_append.mpr (.inr hb))) s2⟩
   .obtain ⟨m1,m2,m3⟩:=nodup_append.mp n2
    refine nodup_cons.mpr ⟨λz=>?_,nodup_append.mpr ⟨m1,nodup_append.mpr ⟨c2,m2,λx hx y hy z=>?_⟩,λx hx y hy z=>?_⟩⟩
    .rcases memb a z with z |z
     .exact n1 z
     .exact haC z
    .subst z
     exact hCA i x hx (mem1 x (mem_append.mpr (.inr hy)))
    .subst z
     rcases mem_append.mp hy with q |q
     .exact hCA i x q (mem1 x (mem_append.mpr (.inl hx)))
     .exact m3 x hx x q rfl
   .intro b hb
    have hb':b∈A i∨b∈C:=by
     rcases mem_cons.mp hb with z |z
     .exact .inl (by rw[eA,z];exact mem_cons_self)
     .rcases memb b z with z |z
      .exact .inl (mem1 b z)
      .exact .inr z
    rcases hb' with z |z
    .exact ⟨(e2.new i b z).1,(e2.new i b z).2.1⟩
    .exact ⟨(c3 b z).2,e.ext.hh.free (x1.hh.free (c3 b z).1)⟩
   .intro j hj b hb z
    rcases mem_cons.mp hb with q |q
    .subst q;exact e.dis j i b hj z (by rw[eA];exact mem_cons_self)
    .rcases memb b q with q |q
     .exact e.dis j i b hj z (mem1 b q)
     .exact hCA j b q z
   .intro b o hb q
    exact upd_off (λz=>hb (by rw[eA,z];exact mem_cons_self)) q
  .exact w1.elim
 .exact w.elim
end
def rSplit:V->List V->Hp->VK->Prop:=λx vs H Q=>∃a b,x = .str a/\vs=[.str b]/\1<=b.length/\a.length<sizeLine/\∀l,H l=none->Q (.ref l) (upd H l (.lst ((Txt.split a b).map V.str)))
theorem vals_strs:∀(l:List Str) (k:Nat),Vals (l.map V.str) (strsFrom k l)
 | [],_=>.nil
 |a::l,k=>.cons ⟨_,rfl⟩ (vals_strs l (k+1))
section
variable {X:Cx}
theorem mt_split:MtM X "str.split" rSplit:=by
 intro pins s Y H x vs v us Q I rx rv h
 obtain⟨a,b,rfl,rfl,hb,hz,q⟩:=h
 obtain⟨t,rfl⟩:=rx
 obtain⟨u,rfl,ru⟩:=rv.one
 obtain⟨t',rfl⟩:=ru
 have hy:(b.length==0)=false:=beq_eq_false_iff_ne.mpr (by lia)
 have hw:=split_weight a b hb
 have hl:(Txt.split a b).length<=sizeLine:=by lia
 cases h1:(decide (a.length<b.length) ||decide (Builtin.Str.strKind a<Builtin.Str.strKind b))
 .cases hf:(Builtin.Str.occurrences a b 0 a.length (a.length+1)).isEmpty
  .have e:Txt.split a b=Builtin.Str.partsBetween a (Builtin.Str.occurrences a b 0 a.length (a.length+1)) b.length:=(if_neg (by rw[h1];decide)).trans (if_neg (by rw[hf];decide))
   rw[e]at hl q
   exact call_meets F.slot_str_split (typeIs_str _ _ _) F.entry_str_split (F.args_str_split_2 _ _) (meets_str_split_sep a b t t' h1 hy hf (by lia) hl) ⟨.ref _,_,I.lnew (vals_strs _ s.toks) (by rw[length_map];exact hl),rfl,q _ I.fresh⟩
  .have e:Txt.split a b=[a]:=(if_neg (by rw[h1];decide)).trans (if_pos hf)
   rw[e]at q
   exact call_meets F.slot_str_split (typeIs_str _ _ _) F.entry_str_split (F.args_str_split_2 _ _) (meets_str_split_not_found a b t t' h1 hy hf) ⟨.ref _,_,I.lnew (ys:=[V.str a]) (t':=s.toks) (.cons ⟨_,rfl⟩ .nil) (by show 1<=sizeLine;rw[sizeLine_eq];decide),rfl,q _ I.fresh⟩
 .have e:Txt.split a b=[a]:=if_pos h1
  rw[e]at q
  exact call_meets F.slot_str_split (typeIs_str _ _ _) F.entry_str_split (F.args_str_split_2 _ _) (meets_str_split_cannot_occur a b t t' h1) ⟨.ref _,_,I.lnew (ys:=[V.str a]) (t':=s.toks) (.cons ⟨_,rfl⟩ .nil) (by show 1<=sizeLine;rw[sizeLine_eq];decide),rfl,q _ I.fresh⟩
end
def dSplit (E Ec:DE):DO:=λG P=>E G λd=>match d with
 | .str x=>Ec G λl=>match l with
  | .str y=>1<=y.length/\x.length<=1000000/\P (.nl ((Txt.split x y).map λs=>.fz (.str s)))
  |_=>False
 |_=>False
section
variable {K:Frag}
theorem reps_strs:∀l:List Str,Reps K F (l.map D.str) (l.map V.str)
 | []=>rfl
 |a::l=>⟨_,_,rfl,rfl,reps_strs l⟩
theorem sO_split (h:SimB K te E)(ha:SimB K ta El): SimO K (tBM K "str" rSplit te (tCons ta tNil)) (dSplit E El):=λF0 H0 F H Y G P Q e w q=>h F0 H0 F H Y G _ _ e w λd v F1 H1 w1 x1 r1=>by
 split at w1
 .rename_i x
  cases (show v=V.str x from r1)
  refine⟨rfl,ha F0 H0 F1 H1 Y G _ _ (e.on x1) w1 λl u F2 H2 w2 x2 r2=>?_⟩
  split at w2
  .rename_i y
   cases (show u=V.str y from r2)
   obtain⟨hy,hx,w2⟩:=w2
   have hs:=sizeLine_eq
   have x12:=x1.trans x2
   refine⟨x,y,rfl,rfl,hy,by lia,λl l0=>?_⟩
   have n:=RepN.list (K:=K) (F':=F2) (H':=upd H2 l (.lst ((Txt.split x y).map V.str))) (x12.hh.free l0) (x2.fh.free l0) upd_same (reps_strs (Txt.split x y))
   rw[map_map]at n
   exact q _ _ F2 _ w2 (x12.trans (Ext.grow x2.fh (Same.new l0))) n
  .exact w2.elim
 .exact w1.elim
end
section
variable {P:Program}{w:World}{K:Frag}{mg:Str->Option Value}{base:Heap}{N:List Str}{qual:Str}{scope:Scope}{f:Addr}{cd:Value}{A:Around}{outer:List Env}{s:Shared}{H:Hp}{E:XK}
end
section
variable {K:Frag}{F0 H0:Hp}{t ta tc:TE}{Ec:DO}{Ea:DE}
theorem sP_ret (h:SimOx K F0 H0 tc Ec): SimX K F0 H0 (tRet tc) (sRet Ec):=λF H Y G De En e l w=>h F H Y G _ _ e w λr v F' H' p x n=>l.rt F' H' r v (e.ext.trans x) (n.old e.ext.hh) p
end
section
variable {P:Program}{w:World}{K:Frag}{mg:Str->Option Value}{base:Heap}{N0:List Str}{qual:Str}{scope0:Scope}{f:Addr}{cd:Value}{A:Around}{outer:List Env}{s0:Shared}{H0:Hp}{E:XK}
variable {X:Cx}{tg iter e:Expr}{es:List Expr}{scope:Scope}{N:List Str}{ix:List (Option Nat)}{wi:TI}{g:TG}{ta:TA}{pos p cpos:Pos}{x:Str}{k:Nat}{ps:List Str}{sp:Sp}
end
def sPopI (i:Nat)(Ei:DE):DS:=λDe G=>match G[i]? with
 |some (some (.own (.nl ts)))=>Ei G λd=>match d with
  | .int k=>0<=k/\k<ts.length/\ts.length<=1000000/\De.nx (G.set i (some (.own (.nl (ts.eraseIdx k.toNat)))))
  |_=>False
 |_=>False
theorem RepOs.erase {K:Frag}{F H:Hp}:∀{ts:List OV} {vs:List V} {A:List Addr} (k:Nat),RepOs K F H ts vs A->∃B,RepOs K F H (ts.eraseIdx k) (vs.eraseIdx k) B/\(∀b∈B,b∈A)/\(A.Nodup->B.Nodup)
 | [],vs,A,k,h=>by
  obtain⟨rfl,rfl⟩:=h
  exact⟨[],⟨rfl,rfl⟩,λ_ h=>h,λh=>h⟩
 |t::ts,vs,A,0,h=>by
  obtain⟨v,r,A1,A2,rfl,rfl,h1,h2⟩:=h
  exact⟨A2,h2,λb hb=>mem_append.mpr (.inr hb),λh=>(nodup_append.mp h).2.1⟩
 |t :: ts,vs,A,k+1,h=>by
  obtain⟨v,r,A1,A2,rfl,rfl,h1,h2⟩:=h
  obtain⟨B,b1,b2,b3⟩:=RepOs.erase k h2
  refine⟨A1++B,⟨v,r.eraseIdx k,A1,B,rfl,rfl,h1,b1⟩,λb hb=>?_,λh=>?_⟩
  .rcases mem_append.mp hb with z |z
   .exact mem_append.mpr (.inl z)
   .exact mem_append.mpr (.inr (b2 b z))
  .obtain ⟨n1,n2,n3⟩:=nodup_append.mp h
   exact nodup_append.mpr ⟨n1,b3 n2,λx hx y hy=>n3 x hx y (b2 y hy)⟩
section
variable {K:Frag}{ti:TE}{Ei:DE}
theorem sS_popI {i:Nat}(hi:SimB K ti Ei):SimS K (tDrop (tBM K "list" rPopAt (tVar i) (tCons ti tNil))) (sPopI i Ei):=λF0 H0 F H Y G De En e l w=>by
 obtain⟨A,e⟩:=e
 unfold sPopI at w
 split at w
 .rename_i ts hs
  obtain⟨v,hv,a,vs,B,rfl,eA,ha,hB⟩:=e.own i _ hs
  refine⟨_,hv,.inl ⟨rfl,_,SqL.of ha⟩,?_⟩
  refine hi F0 H0 F H Y G _ _ ⟨A,e⟩ w λd kv F1 H1 w1 x1 r1=>?_
  split at w1
  .rename_i k
   obtain⟨k0,k1,k2,w1⟩:=w1
   cases r1
   have e2:=e.on x1
   have hl:=hB.length
   have hlt:k.toNat<vs.length:=by lia
   refine⟨a,vs,k,k.toNat,vs[k.toNat],rfl,rfl,x1.hh _ _ ha,by lia,by lia,?_,getElem?_eq_getElem hlt,?_⟩
   .unfold seqIndex?
    rw[if_neg (show ¬ k<0 by lia),if_pos (by simp;lia)]
   .have hB1:RepOs K F1 H1 ts vs B:=hB.frame x1.ff λb _ xs z=>x1.hh _ _ z
    have hnd:=e.nod i
    rw[eA]at hnd
    obtain⟨n1,n2⟩:=nodup_cons.mp hnd
    obtain⟨C,c1,c2,c3⟩:=hB1.erase k.toNat
    refine l.nx F1 _ Y _ (e2.change i hv (t':=.nl (ts.eraseIdx k.toNat)) (B:=a::C) ⟨a,vs.eraseIdx k.toNat,C,rfl,rfl,upd_same,c1.frame (Same.refl _) λb hb xs q=>upd_off (λz=>n1 (by rw[<- z];exact c2 b hb)) q⟩ ?_ ?_ ?_ ?_) w1
    .exact nodup_cons.mpr ⟨λz=>n1 (c2 a z),c3 n2⟩
    .intro b hb
     have hb':b∈A i:=by
      rcases mem_cons.mp hb with z |z
      .rw [eA,z];exact mem_cons_self
      .rw [eA];exact mem_cons_of_mem _ (c2 b z)
     exact⟨(e2.new i b hb').1,(e2.new i b hb').2.1⟩
    .intro j hj b hb z
     rcases mem_cons.mp hb with q |q
     .subst q;exact e.dis j i b hj z (by rw[eA];exact mem_cons_self)
     .exact e.dis j i b hj z (by rw[eA];exact mem_cons_of_mem _ (c2 b q))
    .intro b o hb q
     exact upd_off (λz=>hb (by rw[eA,z];exact mem_cons_self)) q
  .exact w1.elim
 .exact w.elim
end
abbrev DMR:=List OV->List D->(D->List OV->Prop)->(Str->List OV->Prop)->Prop
def ObS (K:Frag)(ns:List Str)(C a dx:Addr)(B:List Addr)(F H F' H':Hp)(ts':List OV):Prop:=∃dx' vs' B',Same F F'/\Same F' H'/\(∀b o,b∉a::dx::B->H b=some o->H' b=some o)/\(∀b o,F b=none->H b=some o->imm o=false->b∉a::dx::B->F' b=none)/\H' a=some (.ins C dx' (ns.zip vs'))/\H' dx'=some (.own a)/\ts'.length<=ns.length/\RepOs K F' H' ts' vs' B'/\
 (a::dx'::B').Nodup/\∀b∈a::dx'::B',F' b=none/\(b∈a::dx::B∨H b=none)
def spR (K:Frag)(n:Nat)(c:Str)(ns:List Str)(sp:DMR):Sp:=λvs H Q E=>vs.length=n/\∃F a C dx ts vs0 B rest ds P X,vs=V.ref a::rest/\nsIn K mainGlobals c=some (some (.ref C))/\Same F H/\H a=some (.ins C dx (ns.zip vs0))/\H dx=some (.own a)/\ts.length<=ns.length/\RepOs K F H ts vs0 B/\
 (a::dx::B).Nodup/\(∀b∈a::dx::B,F b=none)/\Reps K F ds rest/\sp ts ds P X/\
 (∀d v ts' F' H',P d ts'->ObS K ns C a dx B F H F' H' ts'->Rep K F' d v->Q v H')/\
 ∀e C1 ts' F' H',X e ts'->nsIn K mainGlobals e=some (some (.ref C1))->ObS K ns C a dx B F H F' H' ts'->E (.ref C1) none H'
section
variable {K:Frag}{c:Str}{ns:List Str}{i:Nat}
end
structure DER where
 nx:Dst->Prop
 rt:D->Dst->Prop
 xr:Str->Dst->Prop
abbrev DSR:=DER->Dst->Prop
structure LkR (K:Frag) (F0 H0:Hp) (De:DER) (En:Ends) (E:XK):Prop where
 nx:∀F H Y G,EnvR K F0 H0 F H Y G->De.nx G->En.nx Y H
 rt:∀F H Y G d v,EnvR K F0 H0 F H Y G->Rep K F d v->De.rt d G->En.rt v H
 xr:∀x C F H Y G,EnvR K F0 H0 F H Y G->De.xr x G->nsIn K mainGlobals x=some (some (.ref C))->E (.ref C) none H
def SimR (K:Frag)(F0 H0:Hp)(E:XK)(t:TS)(T:DSR):Prop:=∀F H Y G De En,EnvR K F0 H0 F H Y G->LkR K F0 H0 De En E->T De G->t En Y H
section
variable {K:Frag}{F0 H0:Hp}{E:XK}{t u:TS}{T U:DSR}
end
section
variable {P:Program}{w:World}{K:Frag}{mg:Str->Option Value}{base:Heap}{c m q:Str}{ns:List Str}{st:Stmt}{f:Addr}{fd:FuncData}{N ps:List Str}{k n:Nat}
abbrev endR (c:Str)(ns:List Str)(a:Addr)(Pr:D->List OV->Prop)(X:Str->List OV->Prop):DER where
 nx:=λG=>∃ts',G[0]?=some (some (.own (.ob (some a) c ns ts')))/\Pr .non ts'
 rt:=λd G=>∃ts',G[0]?=some (some (.own (.ob (some a) c ns ts')))/\Pr d ts'
 xr:=λx G=>∃ts',G[0]?=some (some (.own (.ob (some a) c ns ts')))/\X x ts'
theorem obS_of {F H F' H':Hp}{C a dx:Addr}{B:List Addr}{Y:St}{G:Dst}{ts':List OV}(hC:nsIn K mainGlobals c=some (some (.ref C)))(e:EnvR K F (λb=>if b∈a::dx::B then none else H b) F' H' Y G)(h0:G[0]?=some (some (.own (.ob (some a) c ns ts')))):ObS K ns C a dx B F H F' H' ts':=by
 obtain⟨A',e⟩:=e
 obtain⟨v,hv,a',C',dx',vs',B',rfl,eA,g0,go,g1,g2,g3,g4⟩:=e.own 0 _ h0
 obtain rfl:=go a rfl
 rw[hC]at g0
 cases g0
 have hn':=e.nod 0
 rw[eA]at hn'
 refine⟨dx',vs',B',e.ext.ff,e.ext.fh,λb o y z=>?_,λb o y1 y2 y3 y4=>?_,g1,g2,g3,g4,hn',λb hb=>?_⟩
 .exact e.ext.hh b o (by rw[if_neg y];exact z)
 .exact e.ext.no b o y1 (by rw[if_neg y4];exact y2) y3
 .obtain ⟨z1,z2,_⟩:=e.new 0 b (by rw[eA];exact hb)
  refine⟨z1,?_⟩
  by_cases q:b∈a'::dx::B
  .exact .inl q
  .rw [if_neg q]at z2;exact .inr z2
theorem startM_er {F H:Hp}{a C dx:Addr}{ts:List OV}{vs0:List V}{B:List Addr}{rest:List V}{ds:List D}(hC:nsIn K mainGlobals c=some (some (.ref C)))(hs:Same F H)(ha:H a=some (.ins C dx (ns.zip vs0)))(hd:H dx=some (.own a))(hlen:ts.length<=ns.length)(hB:RepOs K F H ts vs0 B)(hnd:(a::dx::B).Nodup)(hnf:∀b∈a::dx::B,F b=none)(hr':Reps K F ds rest):
  ER K F (λb=>if b∈a::dx::B then none else H b) F H (start N (V.ref a::rest)) (startM N c ns a ts ds) (λj=>if j=0 then a::dx::B else []):=by
 have hl:=hr'.length
 refine⟨by simp[start,startM,hl],⟨Same.refl _,λb o z=>?_,hs,λ_ _ z _ _=>z⟩,λi t hi=>?_,λi d hi=>?_,λj=>?_,λj k b hjk y1 y2=>?_,λj b hb=>?_⟩
 .split at z
  .cases z
  .exact z
 .unfold startM at hi
  cases i with
  |zero=>
   simp at hi
   subst hi
   exact⟨.ref a,rfl,a,C,dx,vs0,B,rfl,rfl,hC,(λ_ z=>Option.some.inj z),ha,hd,hlen,hB⟩
  |succ i=>
   rw[getElem?_cons_succ]at hi
   by_cases z:i<ds.length
   .rw [getElem?_append_left (by simpa using z),getElem?_map,getElem?_eq_getElem z]at hi
    simp at hi
    subst hi
    obtain⟨v,g1,g2⟩:=hr'.get (getElem?_eq_getElem z)
    refine⟨v,?_,rfl,g2⟩
    unfold start
    rw[map_cons,cons_append,getElem?_cons_succ,getElem?_append_left (by simp;lia),getElem?_map,g1]
    rfl
   .rw [getElem?_append_right (by simpa using z)]at hi
    have:=mem_of_getElem? hi
    rw[mem_replicate]at this
    cases this.2
 .unfold startM at hi
  cases i with
  |zero=>simp at hi
  |succ i=>
   rw[getElem?_cons_succ]at hi
   by_cases z:i<ds.length
   .rw [getElem?_append_left (by simpa using z),getElem?_map]at hi
    simp at hi
   .rw [getElem?_append_right (by simpa using z)]at hi
    have:=mem_of_getElem? hi
    rw[mem_replicate]at this
    cases this.2
 .split
  .exact hnd
  .exact nodup_nil
 .split at y1
  .split at y2
   .lia
   .cases y2
  .cases y1
 .split at hb
  .refine ⟨hnf b hb,if_pos hb,?_⟩
   rcases mem_cons.mp hb with y |y
   .rw [y];exact⟨_,ha,rfl⟩
   .rcases mem_cons.mp y with y |y
    .rw [y];exact⟨_,hd,rfl⟩
    .exact hB.isl b y
  .cases hb
theorem okR_of {sp:DMR}(Fn:Fun K m q st f fd)(S:FnScope N ps (defScope st))(hn:n=ps.length)
  (hbody:∀(cdv:Value) (A:Around) (outer:List Env) (s:Shared) (H:Hp) (E:XK),Room k (A.deeper (envOfC q (defScope st) s.heap.objs.size f cdv))->
   ∃t T,PSs (cxOf CX0 P w K mg base N q (defScope st) f cdv A outer s H E).nox (defBody st) t/\(∀F0 H0,SimR K F0 H0 E t T)/\∀(a:Addr) ts ds Pr X,sp ts ds Pr X->T (endR c ns a Pr λ_ _=>False) (startM N c ns a ts ds)):
  FnOk P w K mg base CX0 (k+1) f fd ps (spR K n c ns sp):=
 Fn.ok S (λvs H Q E h=>by rw[<- hn];exact h.1) λcdv A outer s H vs Q E hr h=>by
  obtain⟨_,F,a,C,dx,ts,vs0,B,rest,ds,Pr,X,rfl,hC,hs,ha,hd,hlen,hB,hnd,hnf,hr',hsp,hq,hE⟩:=h
  obtain⟨t,T,h1,h2,h3⟩:=hbody cdv A outer s H E hr
  refine⟨t,h1,h2 F _ F H _ _ _ _ ⟨_,startM_er hC hs ha hd hlen hB hnd hnf hr'⟩ ⟨λF' H' Y G e p=>?_,λF' H' Y G d v e r p=>?_,λ_ _ _ _ _ _ _ z=>?_⟩ (h3 a ts ds Pr X hsp)⟩
  .obtain ⟨ts',h0,hp⟩:=p
   exact hq .non .non ts' F' H' hp (obS_of hC e h0) rfl
  .obtain ⟨ts',h0,hp⟩:=p
   exact hq d v ts' F' H' hp (obS_of hC e h0) r
  .obtain ⟨_,_,z⟩:=z
   exact z.elim
theorem okRX_of {sp:DMR}(Fn:Fun K m q st f fd)(S:FnScope N ps (defScope st))(hn:n=ps.length)
  (hbody:∀(cdv:Value) (A:Around) (outer:List Env) (s:Shared) (H:Hp) (E:XK),Room k (A.deeper (envOfC q (defScope st) s.heap.objs.size f cdv))->
   ∃t T,PSs (cxOf (CXE P w) P w K mg base N q (defScope st) f cdv A outer s H E) (defBody st) t/\(∀F0 H0,SimR K F0 H0 E t T)/\∀(a:Addr) ts ds Pr X,sp ts ds Pr X->T (endR c ns a Pr X) (startM N c ns a ts ds)):
  FnOk P w K mg base (CXE P w) (k+1) f fd ps (spR K n c ns sp):=by
 obtain⟨oc,od,kV,doc,pm,an,cdv,ct,osl,rfl,lk,hcd⟩:=Fn.ex
 refine fn_of lk hcd S (λvs H Q E h=>by rw[<- hn];exact h.1) λA outer s H vs Q E hr h=>?_
 obtain⟨_,F,a,C,dx,ts,vs0,B,rest,ds,Pr,X,rfl,hC,hs,ha,hd,hlen,hB,hnd,hnf,hr',hsp,hq,hE⟩:=h
 obtain⟨t,T,h1,h2,h3⟩:=hbody cdv A outer s H E hr
 refine⟨t,h1,h2 F _ F H _ _ _ _ ⟨_,startM_er hC hs ha hd hlen hB hnd hnf hr'⟩ ⟨λF' H' Y G e p=>?_,λF' H' Y G d v e r p=>?_,λx C1 F' H' Y G e p hx=>?_⟩ (h3 a ts ds Pr X hsp)⟩
 .obtain ⟨ts',h0,hp⟩:=p
  exact hq .non .non ts' F' H' hp (obS_of hC e h0) rfl
 .obtain ⟨ts',h0,hp⟩:=p
  exact hq d v ts' F' H' hp (obS_of hC e h0) r
 .obtain ⟨ts',h0,hp⟩:=p
  exact hE x C1 ts' F' H' hp hx (obS_of hC e h0)
theorem CalO.of {sp:DMR}(Df:DefAt K mg m st f fd)(S:FnScope N ps (defScope st))
  (hb:∀(kV doc pm:Value) (an:Option Addr) (cdv ct:Value) (us:List Value),us.length=ps.length->bindArgs (fnOf m m (defArgs st) (defBody st) (defScope st) .none kV doc pm an cdv ct) ⟨us,[]⟩=pure (ps.zip us)) (hn:n=ps.length)
  (hbody:∀(cdv:Value) (A:Around) (outer:List Env) (s:Shared) (H:Hp) (E:XK),Room k (A.deeper (envOfC m (defScope st) s.heap.objs.size f cdv))->
   ∃t T,PSs (cxOf CX0 P w K mg base N m (defScope st) f cdv A outer s H E).nox (defBody st) t/\(∀F0 H0,SimR K F0 H0 E t T)/\∀(a:Addr) ts ds Pr X,sp ts ds Pr X->T (endR c ns a Pr λ_ _=>False) (startM N c ns a ts ds)):
  Cal P w K mg base m (k+1) ps (spR K n c ns sp):=
 ⟨f,fd,okR_of Df.fn S hn hbody,Df.here,Df.fn.kp,Df.fn.binds hb⟩
end
abbrev DEf:=Dst->(D->Dst->Prop)->Prop
abbrev DTf:=Dst->(Bool->Dst->Prop)->Prop
section
variable {K:Frag}{ta tb:TE}{Ea Eb:DEf}{Eb':DE}{ua ub:TT}{Ca Cb:DTf}{t u:TS}{T U:DS}
end
structure CalMX (P:Program) (w:World) (K:Frag) (mg:Str->Option Value) (base:Heap) (c m:Str) (k:Nat) (ps:List Str) (sp:Sp):Prop where
 ex:∃C f fd,nsIn K mainGlobals c=some (some (.ref C))/\Cls K C/\Meth K C m f/\FnOk P w K mg base (CXE P w) k f fd ps sp/\Binds K fd ps []
section
variable {X:Cx}
end
section
variable {K:Frag}
end
section
variable {P:Program}{w:World}{K:Frag}{mg:Str->Option Value}{base:Heap}{c m q:Str}{ns:List Str}{st:Stmt}{f:Addr}{fd:FuncData}{N ps:List Str}{k n:Nat}
theorem CalMX.of {sp:DMR}(Df:MetAt K c m q st f fd)(S:FnScope N ps (defScope st))
  (hb:∀(kV doc pm:Value) (an:Option Addr) (cdv ct:Value) (us:List Value),us.length=ps.length->bindArgs (fnOf m q (defArgs st) (defBody st) (defScope st) .none kV doc pm an cdv ct) ⟨us,[]⟩=pure (ps.zip us)) (hn:n=ps.length)
  (hbody:∀(cdv:Value) (A:Around) (outer:List Env) (s:Shared) (H:Hp) (E:XK),Room k (A.deeper (envOfC q (defScope st) s.heap.objs.size f cdv))->
   ∃t T,PSs (cxOf (CXE P w) P w K mg base N q (defScope st) f cdv A outer s H E) (defBody st) t/\(∀F0 H0,SimR K F0 H0 E t T)/\∀(a:Addr) ts ds Pr X,sp ts ds Pr X->T (endR c ns a Pr X) (startM N c ns a ts ds)):
  CalMX P w K mg base c m (k+1) ps (spR K n c ns sp):=by
 obtain⟨C,hC,cl,hm⟩:=Df.cl
 exact⟨C,f,fd,hC,cl,hm,okRX_of Df.fn S hn hbody,Df.fn.binds hb⟩
end
section
variable {K:Frag}{h:Heap}{mg:Str->Option Value}{c wx:Str}{C W:Addr}
theorem dnx (X:K.In h)(a:nsIn K mainGlobals c=some (some (.ref C)):=by k_is): nsIn K mainGlobals c=some (some (.ref C)):=a
theorem dxm (X:K.In h)(a:nsIn K mainGlobals c=some (some (.ref C)))(b:nsIn K mainGlobals wx=some (some (.ref W)))(e:exmOne K (.ref C) (.ref W)=some true): ∀d∈[c],∀D,nsIn K mainGlobals d=some (some (.ref D))->exmOne K (.ref D) (.ref W)=some true:=λd hd D hD=>by
 rw[mem_singleton.mp hd,a]at hD
 cases hD
 exact e
theorem dexc (X:K.In h)(a:nsIn K mainGlobals c=some (some (.ref C)))(E:PySem.W.ExcK K C)(hx:∀y∈xs,∃D,nsIn K mainGlobals y.1=some (some (.ref D))/\kitOne K (.ref C) (.ref D)=some y.2)(ht:∀y∈ts,kitOne K (.ref C) (.type y.1)=some y.2): ExcV K c xs ts:=⟨⟨C,a,E,hx,ht⟩⟩
theorem t2 (l:K.lookup x=some ⟨.type "tuple",o,.seq #[.int p tp,.int q tq] n,sl⟩)(F:Hp): Rep K F (.tup [.int p,.int q]) (.ref x):=⟨_,[.int p,.int q],rfl,.inr ⟨_,_,_,l,rfl,rfl,sz_le (show 2<=1000000 by decide),.cons ⟨_,rfl⟩ (.cons ⟨_,rfl⟩ (.nil))⟩,⟨_,_,rfl,rfl,⟨_,_,rfl,rfl,rfl⟩⟩⟩
theorem t5 (l:K.lookup x=some ⟨.type "tuple",o,.seq #[.int p tp,.int q tq,.int r tr,.int u tu,.int v tv] n,sl⟩)(F:Hp): Rep K F (.tup [.int p,.int q,.int r,.int u,.int v]) (.ref x):=⟨_,[.int p,.int q,.int r,.int u,.int v],rfl,.inr ⟨_,_,_,l,rfl,rfl,sz_le (show 5<=1000000 by decide),.cons ⟨_,rfl⟩ (.cons ⟨_,rfl⟩ (.cons ⟨_,rfl⟩ (.cons ⟨_,rfl⟩ (.cons ⟨_,rfl⟩ (.nil)))))⟩,⟨_,_,rfl,rfl,⟨_,_,rfl,rfl,⟨_,_,rfl,rfl,⟨_,_,rfl,rfl,⟨_,_,rfl,rfl,rfl⟩⟩⟩⟩⟩⟩
end
theorem KitV.of2 {K:Frag}{h:Heap}(X:K.In h)(h:∀d∈[D.int 0,.bl true,.non,.str Str.empty,.tup [],.lst [],.dic],∀n∈kitNs,kitOne K (.type d.tyN) (.type n)=some (kitB d n)):KitV K:=by
 refine⟨λd ⟨hd,hd2,hd3⟩ n hn=>?_⟩
 cases d with
 |ty m=>exact absurd rfl (hd m)
 |fn m=>exact absurd rfl (hd2 m)
 |exc m=>exact absurd rfl (hd3.1 m)
 |obj c ns ds=>exact absurd rfl (hd3.2.1 c ns ds)
 |clo q1 q2 q3 q4=>exact absurd rfl (hd3.2.2 q1 q2 q3 q4)
 |int _=>exact h (.int 0) (by simp) n hn
 |bl _=>exact h (.bl true) (by simp) n hn
 |non=>exact h .non (by simp) n hn
 |str _=>exact h (.str Str.empty) (by simp) n hn
 |tup _=>exact h (.tup []) (by simp) n hn
 |lst _=>exact h (.lst []) (by simp) n hn
 |dic=>exact h .dic (by simp) n hn
section
variable {P:Program}{w:World}{C:List Addr}{T H H':Hp}{h:Heap}
variable {outer:List Env}{s s':Shared}{Q:VK}{u:Value}
variable {K:Frag}{mg:Str->Option Value}{base:Heap}{A:Around}
end
structure CellsAt (h:Heap) (H:Hp) (cl:List (Str×Addr)) (ws:List V):Prop where
 len:cl.length=ws.length
 at':∀(i:Nat) x c v,cl[i]?=some (x,c)->ws[i]?=some v->H c=none/\∃u,RelV v u/\h.IsCell c (some u)
 ndn:(cl.map (·.1)).Nodup
 nda:(cl.map (·.2)).Nodup
structure CloScope (N fs ps:List Str) (sc:Scope):Prop where
 kind:sc.kind = .function
 co:sc.isCoroutine=false
 gen:sc.isGenerator=false
 nd:N.Nodup
 pre:N.take (fs.length+ps.length)=fs++ps
 fre:∀x∈fs,sc.names.lookup x=some .free
 par:∀x∈ps,sc.names.lookup x=some .local
 only:∀y∈sc.names,y.2≠.cell/\(y.2 = .free->y.1∈fs)
def cxC (P:Program)(w:World)(K:Frag)(mg:Str->Option Value)(base:Heap)(N:List Str)(q:Str)(scope:Scope)(f:Addr)(cd:Value)(cl:List (Str×Addr))(A:Around)(outer:List Env)(s:Shared)(H:Hp):Cx where
 prog:=P
 w:=w
 K:=K
 mg:=mg
 base:=base
 A:=A.deeper (envX q scope s.heap.objs.size f cd cl)
 N:=N
 s₀:=s
 H₀:=H
 env:=envX q scope s.heap.objs.size f cd cl
 outer:=outer
 stack:=envX q scope s.heap.objs.size f cd cl::outer
 ex:=[]
 fn:=λ_=>false
 calm:=true
 pn:=[]
 xe:=λ_ _=>False
structure CloOk (P:Program) (w:World) (K:Frag) (mg:Str->Option Value) (base:Heap) (k:Nat) (q:Str) (st:Stmt) (fs:List Str) (sp:Sp):Prop where
 run:∀(A:Around) (outer:List Env) (s:Shared) (H:Hp) (f c:Addr) (cl:List (Str×Addr)) (doc pm ctv:Value) (us:List Value) (ws vs:List V) (Q:VK),Room k A->Env0 P w K mg base A outer s H->s.heap.get? f=some (cloObj q st cl doc pm c ctv)->s.heap.CodeRec (.ref c) q->
  cl.map (·.1)=fs->CellsAt s.heap H cl ws->Vals vs us->sp (ws++vs) H Q E0->codeAny (model P w) A (.call (.ref f) ⟨us,[]⟩) (CR CX0 outer P w H s Q E0) s
theorem nd_inj {cl:List (Str×Addr)}{x y:Str}{c:Addr}(h:(cl.map (·.2)).Nodup)(a:(x,c)∈cl)(b:(y,c)∈cl):x=y:=by
 induction cl with
 |nil=>cases a
 |cons p r ih=>
  rw[map_cons,nodup_cons]at h
  rcases mem_cons.mp a with e |a
  .rcases mem_cons.mp b with e' |b
   .rw [<- e]at e';cases e';rfl
   .exact absurd (mem_map.mpr ⟨_,b,by rw[<- e]⟩) h.1
  .rcases mem_cons.mp b with e' |b
   .exact absurd (mem_map.mpr ⟨_,a,by rw[<- e']⟩) h.1
   .exact ih h.2 a b
theorem lk_nd {α:Type}{l:List (Str×α)}{x:Str}{a:α}(nd:(l.map (·.1)).Nodup)(m:(x,a)∈l):l.lookup x=some a:=by
 induction l with
 |nil=>cases m
 |cons p r ih=>
  rw[map_cons,nodup_cons]at nd
  rcases mem_cons.mp m with e |m'
  .rw [<- e,lookup_cons,beq_self_eq_true]
  .have:(x==p.1)=false:=by
    rw[beq_eq_false_iff_ne];rintro rfl
    exact nd.1 (mem_map.mpr ⟨_,m',rfl⟩)
   obtain⟨p1,p2⟩:=p
   rw[lookup_cons,this];exact ih nd.2 m'
section
variable {P:Program}{w:World}{K:Frag}{mg:Str->Option Value}{base:Heap}{N fs ps:List Str}{q:Str}{st:Stmt}{k:Nat}{sp:Sp}
theorem inv_startC {A:Around}{outer:List Env}{s:Shared}{H:Hp}{f:Addr}{cd:Value}{cl:List (Str×Addr)}{us:List Value}{ws vs:List V}{h₁:Heap}{tk:Nat}(S:CloScope N fs ps (defScope st))(hd:A.handled=none)(e0:Env0 P w K mg base A outer s H)(hl:vs.length=ps.length)(hf:cl.map (·.1)=fs)
  (hc:CellsAt s.heap H cl ws) (r:Vals vs us) (hns:h₁.Ns s.heap.objs.size (λx=>(ps.zip us).reverse.lookup x)) (hk:∀b o,s.heap.get? b=some o->h₁.get? b=some o):
  Inv (cxC P w K mg base N q (defScope st) f cd cl A outer s H) [] (start N (ws++vs)) H {s with heap:=h₁,toks:=tk}:=by
 have hfl:fs.length=ws.length:=by rw[<- hf,length_map,hc.len]
 have hpl:fs.length+ps.length<=N.length:=by have:=congrArg List.length S.pre;rw[length_take,length_append]at this;omega
 have noA:∀b:Addr,b∉(cxC P w K mg base N q (defScope st) f cd cl A outer s H).ex:=λb z=>absurd (show b∈([]:List Addr) from z) (by simp)
 have cellK:∀{c v},s.heap.IsCell c v->h₁.IsCell c v:=λ⟨o,ho,hd⟩=>⟨o,hk _ _ ho,hd⟩
 have lkm:∀{x c},cl.lookup x=some c->(x,c)∈cl:=λh=>PySem.mem_of_lookup h
 have all:∀{x c},(x,c)∈cl->H c=none/\∃u,s.heap.IsCell c (some u):=λ{x c} h=>by
  obtain⟨i,hi,e⟩:=List.mem_iff_getElem.mp h
  have hi':i<ws.length:=by rw[<- hc.len];exact hi
  obtain⟨a,u,_,b⟩:=hc.at' i x c ws[i] (by rw[getElem?_eq_getElem hi,e]) (getElem?_eq_getElem hi')
  exact⟨a,u,b⟩
 refine⟨⟨e0.mod,S.kind,rfl,rfl,Nat.le_refl _,λy z c h1 h2=>nd_inj hc.nda (lkm h1) (lkm h2),λy hy=>?_,λy c z=>(by cases z),λ_=>hd,Around.frames_deeper e0.frames,.inr ⟨rfl,rfl⟩,λb z=>absurd z (noA b),e0.bs,e0.bsz,λb _ _=>noA b,λb z=>absurd z (noA b),e0.funs,e0.frf⟩,
  rfl,e0.bare,Un.kept hk,⟨_,hns,λi y v h1 h2 h3=>?_⟩,λy c h=>?_,e0.hok.fresh (Nat.le_refl _),λy c h=>(all (lkm h)).1,λp hp=>absurd (show p∈([]:List (Addr×Obj)) from hp) (by simp),e0.hok.kept hk,?_⟩
 .have hy:(defScope st).names.lookup y=some .cell∨(defScope st).names.lookup y=some .free:=hy
  rcases hy with hy |hy
  .exact absurd rfl (S.only _ (PySem.mem_of_lookup hy)).1
  .have hm:=(S.only _ (PySem.mem_of_lookup hy)).2 rfl
   rw[<- hf]at hm
   obtain⟨⟨x,c⟩,hm',rfl⟩:=mem_map.mp hm
   exact⟨c,lk_nd hc.ndn hm'⟩
 .have hi:i<ws.length+vs.length:=by
   unfold start at h2
   by_cases hi:i<ws.length+vs.length
   .exact hi
   .rw [getElem?_append_right (by simpa using hi),List.getElem?_replicate]at h2
    split at h2<;>cases h2
  have ha:(ws++vs)[i]?=some v:=by
   unfold start at h2
   rw[getElem?_append_left (by simpa using hi),getElem?_map]at h2
   cases e:(ws++vs)[i]? with
   |none=>rw[e]at h2;cases h2
   |some a=>rw[e]at h2;cases h2;rfl
  have hp:(fs++ps)[i]?=some y:=by
   rw[<- S.pre,List.getElem?_take_of_lt (by omega)];exact h1
  by_cases hw:i<ws.length
  .rw [getElem?_append_left hw]at ha
   rw[getElem?_append_left (by omega),<- hf,getElem?_map]at hp
   cases e:cl[i]? with
   |none=>rw[e]at hp;cases hp
   |some p=>
    rw[e]at hp
    obtain⟨x,c⟩:=p
    cases hp
    obtain⟨_,u,ru,hcu⟩:=hc.at' i x c v e ha
    refine⟨u,ru,.inr ⟨.inr (S.fre x ?_),c,lk_nd hc.ndn (mem_of_getElem? e),cellK hcu⟩⟩
    rw[<- hf];exact mem_map.mpr ⟨_,mem_of_getElem? e,rfl⟩
  .rw [getElem?_append_right (by omega)]at ha hp
   obtain⟨u,hu,rv⟩:=r.get ha
   have ndP:ps.Nodup:=by
    have:(fs++ps).Nodup:=by rw[<- S.pre];exact S.nd.sublist (List.take_sublist _ _)
    exact (nodup_append.mp this).2.1
   rw[hfl]at hp
   refine⟨u,rv,.inl ⟨S.par y (mem_of_getElem? hp),(show List.lookup y (ps.zip us).reverse=some u from lk_nd ?_ ?_)⟩⟩
   .rw [List.map_reverse]
    refine (List.reverse_perm _).nodup_iff.mpr ?_
    rw[List.map_fst_zip (by rw[<- r.length,hl];exact Nat.le_refl _)];exact ndP
   .rw [List.mem_reverse]
    exact mem_of_getElem? (i:=i-ws.length) (by rw[List.getElem?_zip_eq_some];exact⟨hp,hu⟩)
 .obtain ⟨_,u,hu⟩:=all (lkm h)
  exact⟨_,cellK hu⟩
 .unfold start
  show _=N.length
  rw[length_append,length_map,length_replicate,length_append]
  omega
theorem clo_of (S:CloScope N fs ps (defScope st))
  (hb:∀(cl:List (Str×Addr)) (doc pm:Value) (c:Addr) (ctv:Value) (us:List Value),us.length=ps.length->bindArgs (fnX (defName st) q (defArgs st) (defBody st) (defScope st) cl .none .none doc pm none (.ref c) ctv) ⟨us,[]⟩=pure (ps.zip us))
  (hlen:∀vs H Q,sp vs H Q E0->vs.length=fs.length+ps.length)
  (hbody:∀(A:Around) (outer:List Env) (s:Shared) (H:Hp) (f:Addr) (cd:Value) (cl:List (Str×Addr)),cl.map (·.1)=fs->Room k (A.deeper (envX q (defScope st) s.heap.objs.size f cd cl))->
   ∃t,PSs (cxC P w K mg base N q (defScope st) f cd cl A outer s H) (defBody st) t/\∀vs Q,sp vs H Q E0->t {nx:=λ_ H'=>Q .non H',rt:=Q} (start N vs) H):CloOk P w K mg base (k+1) q st fs sp:=by
 refine⟨λA outer s H f c cl doc pm ctv us ws vs Q hr e0 ho hcd hf hc r hsp=>?_⟩
 have lim:s.heap.NoLimit:=e0.mod.nolimit.keeps λb o e=>(e0.bs b o e).1
 have hl:=hlen _ _ _ hsp
 have hfl:fs.length=ws.length:=by rw[<- hf,length_map,hc.len]
 rw[length_append]at hl
 have hlv:vs.length=ps.length:=by omega
 refine codeAny_call_def (fd:=fnX (defName st) q (defArgs st) (defBody st) (defScope st) cl .none .none doc pm none (.ref c) ctv) (body:=defBody st) (binds:=ps.zip us) hr.depth ho rfl lim hcd rfl (BindsTo.of_eq (hb cl doc pm c ctv us (by rw[<- r.length];exact hlv)))
  (λx hx=>(S.only x hx).1) (λx hx=>S.par _ (of_mem_zip hx).1) (λh₁ hns hk=>?_) S.co S.gen S.kind
 obtain⟨t,ht,hq⟩:=hbody A outer s H f (.ref c) cl hf (hr.deeper _)
 have I:=inv_startC (tk:=s.toks+(ps.zip us).length) (q:=q) (f:=f) (cd:=.ref c) S hr.hd e0 hlv hf hc r hns hk
 refine wpAny_mono (ht [] _ _ H _ I (hq _ Q hsp)) (λfl s' hs=>?_) λe s' z=>(show False from z).elim
 have fin:∀{Y':St} {H':Hp} {v:V} {u:Value},Inv (cxC P w K mg base N q (defScope st) f (.ref c) cl A outer s H) [] Y' H' s'->RelV v u->Q v H'->CE outer P w H s Q u s':=
  λ{Y' H' v u} J rv q=>⟨v,H',J.os,J.bare,J.base,J.hok,rv,q⟩
 cases fl with
 |ret u=>
  obtain⟨v,Y',H',J,rv,q⟩:=hs
  exact fin J rv q
 |next=>
  obtain⟨Y',H',J,q⟩:=hs
  exact fin (v:=V.non) (u:=Value.none) J rfl q
 |brk=>
  obtain⟨_,_,_,q⟩:=hs
  exact False.elim q
 |cont=>
  obtain⟨_,_,_,q⟩:=hs
  exact False.elim q
end
structure Seen (X:Cx) (cl:List (Str×Addr)) (ix:List Nat):Prop where
 len:cl.length=ix.length
 nm:∀(i:Nat) x c,cl[i]?=some (x,c)->X.env.cells.lookup x=some c/\X.env.kindOf x=some .cell/\Vis X.env.scope x/\∃j:Nat,ix[i]?=some j/\X.N[j]?=some x
 ndn:(cl.map (·.1)).Nodup
 fn:∀(i:Nat) x c,cl[i]?=some (x,c)->X.fn x=true
def ats (Y:St)(ix:List Nat)(ws:List V):Prop:=ws.length=ix.length/\∀(i j:Nat) v,ix[i]?=some j->ws[i]?=some v->Y[j]?=some (some v)
section
variable {X:Cx}{cl:List (Str×Addr)}{ix:List Nat}{pins:List (Addr×Obj)}{Y:St}{H:Hp}{s:Shared}{ws:List V}
theorem Seen.nda (S:Seen X cl ix)(ok:X.Ok):(cl.map (·.2)).Nodup:=by
 rw[List.nodup_iff_pairwise_ne,List.pairwise_map]
 have:=S.ndn
 rw[List.nodup_iff_pairwise_ne,List.pairwise_map]at this
 refine List.Pairwise.imp_of_mem (λ{a b} ha hb hne e=>hne ?_) this
 obtain⟨i,hi⟩:=List.getElem?_of_mem ha
 obtain⟨j,hj⟩:=List.getElem?_of_mem hb
 exact ok.inj a.1 b.1 a.2 (S.nm i a.1 a.2 hi).1 (by rw[(S.nm j b.1 b.2 hj).1,e])
theorem Seen.at' (S:Seen X cl ix)(I:Inv X pins Y H s)(h:ats Y ix ws){i:Nat}{x:Str}{c:Addr}{v:V}(hi:cl[i]?=some (x,c))(hw:ws[i]?=some v):H c=none/\∃u,RelV v u/\s.heap.IsCell c (some u):=by
 obtain⟨h1,h2,h3,j,h4,h5⟩:=S.nm i x c hi
 refine⟨I.freeC x c h1,?_⟩
 obtain⟨m,hn,hl⟩:=I.loc
 obtain⟨u,r,l⟩:=hl j x v h5 (h.2 i j v h4 hw) h3
 rcases l with⟨k,_⟩ | ⟨_,c',e,z⟩
 .rw [h2]at k;cases k
 .rw [h1]at e;cases e;exact⟨u,r,z⟩
theorem Seen.cells (S:Seen X cl ix)(I:Inv X pins Y H s)(h:ats Y ix ws):CellsAt s.heap H cl ws:=
 ⟨S.len.trans h.1.symm,λi x c v hi hw=>S.at' I h hi hw,S.ndn,S.nda I.ok⟩
theorem ats.get (h:ats Y ix ws)(i:Nat)(hi:i<ix.length):∃v,ws[i]?=some v:=⟨_,getElem?_eq_getElem (by rw[h.1];exact hi)⟩
end
section
variable {X:Cx}
end
section
variable {K:Frag}{F0 H0 F H:Hp}{Y:St}{G:Dst}
end
def spT (K:Frag)(n:Nat)(T:Addr)(pos:Pos)(q:Str)(sp:DSp):Sp:=spL n λvs H Q=>∃F ds P,F T=some (.cod pos q)/\Same F H/\Reps K F ds vs/\sp ds P/\∀r v F' H',P r->Ext F H F' H'->RepN K H F' H' r v->Q v H'
section
variable {K:Frag}{F0 H0:Hp}{te ta tb:TE}{t u:TS}{T U:DS}{a:TA}{As:DA}{E Ea Eb:DE}{n:Nat}{sp:DSp}
end
section
variable {P:Program}{w:World}{K:Frag}{mg:Str->Option Value}{base:Heap}{x q:Str}{st:Stmt}{f c T:Addr}{fd:FuncData}{pos:Pos}{N ps fs:List Str}{k n:Nat}{sp:DSp}
theorem CloV.of (S:CloScope N fs ps (defScope st))
  (hb:∀(cl:List (Str×Addr)) (doc pm:Value) (c:Addr) (ctv:Value) (us:List Value),us.length=ps.length->bindArgs (fnX (defName st) q (defArgs st) (defBody st) (defScope st) cl .none .none doc pm none (.ref c) ctv) ⟨us,[]⟩=pure (ps.zip us)) (hn:n=fs.length+ps.length)
  (hbody:∀(A:Around) (outer:List Env) (s:Shared) (H:Hp) (f:Addr) (cd:Value) (cl:List (Str×Addr)),cl.map (·.1)=fs->Room k (A.deeper (envX q (defScope st) s.heap.objs.size f cd cl))->
   ∃t T,PSs (cxC P w K mg base N q (defScope st) f cd cl A outer s H) (defBody st) t/\SimS K t T/\∀ds Pr,sp ds Pr->T {nx:=λ_=>Pr (.fz .non),rt:=Pr} (startV N ds)):CloOk P w K mg base (k+1) q st fs (spV K n sp):=
 clo_of S hb (λvs H Q h=>by rw[<- hn];exact h.1) λA outer s H f cd cl hf hr=>by
  obtain⟨t,T,h1,h2,h3⟩:=hbody A outer s H f cd cl hf hr
  refine⟨t,h1,λvs Q h=>?_⟩
  obtain⟨_,F,ds,Pr,hs,hr',hsp,hq⟩:=h
  refine h2 F H F H (start N vs) (startV N ds) {nx:=λ_=>Pr (.fz .non),rt:=Pr} _ ⟨_,startV_er hs hr'⟩ ⟨λF' H' Y G e p=>?_,λ_ _ _ _ _ z=>z.elim,λ_ _ _ _ _ z=>z.elim,λF' H' r v x n p=>hq r v F' H' p x n⟩ (h3 ds Pr hsp)
  exact hq _ _ F' H' p e.ext (.fz rfl)
theorem CalT.of {sc:Scope}(Df:DefAt K mg x st f fd)(hc:fd.code = .ref c)(S:FnScope N ps (defScope st))
  (hb:∀(kV doc pm:Value) (an:Option Addr) (cdv ct:Value) (us:List Value),us.length=ps.length->bindArgs (fnOf x x (defArgs st) (defBody st) (defScope st) .none kV doc pm an cdv ct) ⟨us,[]⟩=pure (ps.zip us)) (hn:n=ps.length)
  (hbody:∀(A:Around) (outer:List Env) (s:Shared) (H:Hp) (E:XK),Room k (A.deeper (envOfC x (defScope st) s.heap.objs.size f (.ref c)))->∀F:Hp,F T=some (.cod pos q)->∀cl,cl=freeL sc (cxOf CX0 P w K mg base N x (defScope st) f (.ref c) A outer s H E).nox.env->
   ∃t U,PSs (cxOf CX0 P w K mg base N x (defScope st) f (.ref c) A outer s H E).nox (defBody st) t/\SimX K F H t U/\∀ds Pr,sp ds Pr->U {nx:=λ_=>Pr (.fz .non),rt:=Pr} (startV N ds)):Cal P w K mg base x (k+1) ps (spT K n T pos q sp):=by
 obtain⟨oc,od,kV,doc,pm,an,cdv,ct,osl,rfl,lk,hcd⟩:=Df.fn.ex
 cases (show cdv = .ref c from hc)
 refine⟨f,_,?_,Df.here,Df.fn.kp,Df.fn.binds hb⟩
 refine fn_of lk hcd S (λvs H Q E h=>by rw[<- hn];exact h.1) λA outer s H vs Q E hr h=>?_
 obtain⟨_,F,ds,Pr,hT,hs,hr',hsp,hq⟩:=h
 obtain⟨t,U,h1,h2,h3⟩:=hbody A outer s H E hr F hT _ rfl
 refine⟨t,h1.nox,h2 F H (start N vs) (startV N ds) {nx:=λ_=>Pr (.fz .non),rt:=Pr} _ ⟨_,startV_er hs hr'⟩ ⟨λF' H' Y G e p=>?_,λ_ _ _ _ _ z=>z.elim,λ_ _ _ _ _ z=>z.elim,λF' H' r v x n p=>hq r v F' H' p x n⟩ (h3 ds Pr hsp)⟩
 exact hq _ _ F' H' p e.ext (.fz rfl)
end
def rNeZ:DR2:=λx y P=>match x,y with
 | .int i,.int j=>P (.bl (!decide (i=j)))
 | .non,.non=>P (.bl false)
 | .non,.int _=>P (.bl true)
 | .int _,.non=>P (.bl true)
 |_,_=>False
theorem op_neZ {X:Cx}:OpR X (compareOp .NotEq) rNe:=op_ne
theorem oS_neZ {K:Frag}:OpS K rNe rNeZ:=λF H x y v u P Q s rx ry w q=>by
 unfold rNeZ at w
 split at w
 .cases rx;cases ry;exact⟨rfl,by rw[vd_int];exact q _ _ F H w (Ext.refl s) rfl⟩
 all_goals first |exact w.elim | (cases rx;cases ry;exact⟨rfl,q _ _ F H w (Ext.refl s) rfl⟩)
section
variable {P:Program}{w:World}{K:Frag}{mg:Str->Option Value}{base:Heap}{N fs ps:List Str}{q:Str}{ar:Arguments}{bd:Expr}{sc:Scope}{k:Nat}{sp:Sp}
end
section
variable {X:Cx}
end
section
variable {K:Frag}{F0 H0:Hp}{c c':TT}{C C':DT}
end
open PySem PyProof.Rows
def SFr (xs:Array Keyed)(lo hi:Nat):Prop:=∀i j,lo<=i->i<=j->j<hi->K xs i<=K xs j
def SDn (xs:Array Keyed)(lo hi:Nat):Prop:=∀i j,lo<=i->i<=j->j<hi->K xs j<=K xs i
theorem SFr.snoc {xs:Array Keyed}{lo x:Nat}(h:SFr xs lo (lo+x))(hx:1<=x)(hl:¬ K xs (lo+x)<K xs (lo+x-1)):SFr xs lo (lo+(x+1)):=λi j a1 a2 a3=>by
 by_cases hj:j<lo+x
 .exact h i j a1 a2 hj
 obtain rfl:j=lo+x:=by omega
 by_cases hi:i=lo+x
 .rw [hi];exact Int.le_refl _
 .exact Int.le_trans (h i (lo+x-1) a1 (by omega) (by omega)) (Int.not_lt.mp hl)
theorem SDn.snoc {xs:Array Keyed}{lo x:Nat}(h:SDn xs lo (lo+x))(hx:1<=x)(hl:K xs (lo+x)<=K xs (lo+x-1)):SDn xs lo (lo+(x+1)):=λi j a1 a2 a3=>by
 by_cases hj:j<lo+x
 .exact h i j a1 a2 hj
 obtain rfl:j=lo+x:=by omega
 by_cases hi:i=lo+x
 .rw [hi];exact Int.le_refl _
 .exact Int.le_trans hl (h i (lo+x-1) a1 (by omega) (by omega))
structure SD (a₀:Array Keyed) (st:SortSt):Prop where
 perm:(arrOf st).Perm a₀
 kind:kindOf st=oneType'
 ik:IntKeys a₀
 nd:(a₀.toList.map λp=>numOf p.1).Nodup
section
variable {a₀:Array Keyed}{st:SortSt}
theorem SD.size (h:SD a₀ st):(arrOf st).size=a₀.size:=h.perm.size_eq
theorem SD.get (h:SD a₀ st){i:Nat}(hi:i<a₀.size):∃t q,(arrOf st)[i]?=some (.int (K (arrOf st) i) t,q):=
 (show SBase a₀ (SortSt.mk' (kindOf st) (arrOf st) #[] (gallopOf st) none) from⟨h.perm,h.kind,rfl,rfl⟩).at h.ik hi
end
section
variable {prog:Program}{w:World}{A:Around}{E:Value->Shared->Prop}{s:Shared}{a₀:Array Keyed}{st:SortSt}
end
def Byd (lf:Bool)(ky:Keyed)(ar:Array Keyed)(bs i:Nat):Prop:=if lf=true then K ar (bs+i)<numOf ky.1 else K ar (bs+i)<=numOf ky.1
instance {lf ky ar bs i}:Decidable (Byd lf ky ar bs i):=by unfold Byd;infer_instance
section
variable {prog:Program}{w:World}{A:Around}{E:Value->Shared->Prop}{s:Shared}{st:SortSt}
end
abbrev nk (p:Keyed):Int:=numOf p.1
def Asc (l:List Keyed):Prop:=l.Pairwise λp q=>nk p<=nk q
theorem Asc.drop {l:List Keyed}(h:Asc l)(n:Nat):Asc (l.drop n):=h.sublist (List.drop_sublist _ _)
theorem Asc.hd {x:Keyed}{l:List Keyed}(h:Asc (x::l)):∀y∈x::l,nk x<=nk y:=λy hy=>by
 rcases mem_cons.mp hy with rfl |z
 .exact Int.le_refl _
 .exact (List.pairwise_cons.mp h).1 y z
section
variable {Z out P X σ:List Keyed}
end
section
variable {a:Array Keyed}{i k:Nat}
end
structure SG (st st':SortSt):Prop where
 arr:arrOf st'=arrOf st
 kind:kindOf st'=kindOf st
 fail:failedOf st'=failedOf st
 pend:pendingOf st'=pendingOf st
theorem SG.refl (st:SortSt):SG st st:=⟨rfl,rfl,rfl,rfl⟩
section
variable {a b o:Array Keyed}{i j k:Nat}
end
section
variable {prog:Program}{w:World}{A:Around}{E:Value->Shared->Prop}{s:Shared}{st:SortSt}
end
section
variable {Z T P X σ:List Keyed}
end
section
variable {a:Array Keyed}{i k:Nat}
end
section
variable {a b o:Array Keyed}{i j k:Nat}
end
section
variable {prog:Program}{w:World}{A:Around}{E:Value->Shared->Prop}{s:Shared}{st:SortSt}
end
section
variable {prog:Program}{w:World}{A:Around}{E:Value->Shared->Prop}{s:Shared}{st:SortSt}{a₀:Array Keyed}
end
def Ris (xs:Array Nat):Prop:=xs.toList.Pairwise (· < ·)
theorem ris_at {xs:Array Nat}(h:Ris xs){i j:Nat}(hij:i<j)(hj:j<xs.size):xs[i]'(by omega)<xs[j]:=by
 have:=List.pairwise_iff_getElem.mp h i j (by simp;omega) (by simpa using hj) hij
 simpa using this
theorem below_go (xs:Array Nat)(j:Nat)(hr:Ris xs):∀(f lo hi:Nat),hi-lo<=f->lo<=hi->hi<=xs.size->(∀i (h:i<xs.size),i<lo->xs[i]<j)->(∀i (h:i<xs.size),hi<=i->j<=xs[i])->
  SetTable.below.go xs j f lo hi<=xs.size/\(∀i (h:i<xs.size),i<SetTable.below.go xs j f lo hi->xs[i]<j)/\∀i (h:i<xs.size),SetTable.below.go xs j f lo hi<=i->j<=xs[i]
 | 0,lo,hi,h1,h2,h3,h4,h5=>by
  rw[SetTable.below.go]
  obtain rfl:lo=hi:=by omega
  exact⟨h3,h4,h5⟩
 |f + 1,lo,hi,h1,h2,h3,h4,h5=>by
  rw[SetTable.below.go]
  split
  .dsimp only
   have hm:(lo+hi) / 2<xs.size:=by omega
   have e:xs.getD ((lo+hi) / 2) j=xs[(lo+hi) / 2]:=by simp[hm]
   rw[e]
   split
   .rename_i hl
    refine below_go xs j hr f _ hi (by omega) (by omega) h3 (λi h a1=>?_) h5
    by_cases z:i=(lo+hi) / 2
    .subst z;exact hl
    .exact Nat.lt_trans (ris_at hr (by omega) hm) hl
   .rename_i hl
    refine below_go xs j hr f lo _ (by omega) (by omega) (by omega) h4 λi h a1=>?_
    by_cases z:i=(lo+hi) / 2
    .subst z;exact not_lt.mp hl
    .exact le_trans (not_lt.mp hl) (le_of_lt (ris_at hr (by omega) h))
  .obtain rfl:lo=hi:=by omega
   exact⟨h3,h4,h5⟩
theorem below_ok {xs:Array Nat}(hr:Ris xs)(j:Nat):SetTable.below xs j<=xs.size/\(∀i (h:i<xs.size),i<SetTable.below xs j->xs[i]<j)/\∀i (h:i<xs.size),SetTable.below xs j<=i->j<=xs[i]:=
 below_go xs j hr xs.size 0 xs.size (by omega) (by omega) (Nat.le_refl _) (λi _ h=>by omega) λi h1 h2=>by omega
theorem ris_ins {xs:Array Nat}(hr:Ris xs){j:Nat}(hn:xs[SetTable.below xs j]?≠some j):Ris (SetTable.insertAt xs (SetTable.below xs j) j):=by
 obtain⟨h1,h2,h3⟩:=below_ok hr j
 generalize SetTable.below xs j=c at h1 h2 h3 hn
 unfold Ris SetTable.insertAt
 have e:((xs.extract 0 c).push j++xs.extract c xs.size).toList=xs.toList.take c++[j]++xs.toList.drop c:=by
  rw[Array.toList_append,Array.toList_push,Array.toList_extract,Array.toList_extract,List.extract_eq_take_drop,List.extract_eq_take_drop]
  simp[List.take_of_length_le]
 rw[e]
 have ht:∀x∈xs.toList.take c,x<j:=λx hx=>by
  obtain⟨i,hi,rfl⟩:=List.mem_iff_getElem.mp hx
  simp at hi
  have:=h2 i (by omega) (by omega)
  simpa using this
 have hd:∀x∈xs.toList.drop c,j<x:=λx hx=>by
  obtain⟨i,hi,rfl⟩:=List.mem_iff_getElem.mp hx
  simp at hi
  have hci:c+i<xs.size:=by omega
  have h4:=h3 (c+i) hci (by omega)
  have h5:j<=xs[c]'(by omega):=h3 c (by omega) (Nat.le_refl _)
  have h6:j≠xs[c]'(by omega):=λz=>hn (by rw[getElem?_pos xs c (by omega),<- z])
  have:j<xs[c+i]:=by
   cases i with
   |zero=>exact Nat.lt_of_le_of_ne h5 h6
   |succ i=>exact Nat.lt_of_le_of_lt h5 (ris_at hr (by omega) hci)
  simpa using this
 refine List.pairwise_append.mpr ⟨List.pairwise_append.mpr ⟨List.Pairwise.sublist (List.take_sublist _ _) hr,by simp,λx hx y hy=>?_⟩,List.Pairwise.sublist (List.drop_sublist _ _) hr,λx hx y hy=>?_⟩
 .cases mem_singleton.mp hy;exact ht x hx
 .rcases mem_append.mp hx with z |z
  .exact Nat.lt_trans (ht x z) (hd y hy)
  .cases mem_singleton.mp z;exact hd y hy
theorem probe_go (t:SetTable)(hs:Nat->Int)(h:Int):∀(f:Nat) (p:SetTable.Probe) (j:Nat) (d:Option Nat),(∀x,p.dummy=some x->t.slot x = .dummy)->SetTable.probe.go t hs h f p=some (.empty j d)->t.slot j = .empty/\∀x,d=some x->t.slot x = .dummy
 | 0,p,j,d,_,e=>by rw[SetTable.probe.go]at e;cases e
 |f + 1,p,j,d,hp,e=>by
  have adv:∀q:SetTable.Probe,(t.advance q).dummy=q.dummy:=λq=>by unfold SetTable.advance;split<;>rfl
  rw[SetTable.probe.go]at e
  split at e
  .rename_i hs'
   cases e
   exact⟨hs',hp⟩
  .rename_i hs'
   refine probe_go t hs h f _ j d (λx hx=>?_) e
   rw[adv]at hx
   cases hx
   exact hs'
  .split at e
   .cases e
   .exact probe_go t hs h f _ j d (λx hx=>hp x (by rw[adv]at hx;exact hx)) e
theorem slot_ne {t:SetTable}{j:Nat}(h:t.slot j = .empty∨t.slot j = .dummy):t.place[SetTable.below t.place j]?≠some j:=λz=>by
 unfold SetTable.slot at h
 dsimp only at h
 rw[z]at h
 simp at h
theorem free_ne {t:SetTable}{h:Int}{j:Nat}{b:Bool}(e:t.freeSlot h=some (j,b)):t.place[SetTable.below t.place j]?≠some j:=by
 unfold SetTable.freeSlot at e
 split at e
 .rename_i j' d hp
  obtain⟨h1,h2⟩:=probe_go t _ h _ _ j' d (λx hx=>by cases hx) hp
  cases e
  cases d with
  |none=>exact slot_ne (.inl h1)
  |some x=>exact slot_ne (.inr (h2 x rfl))
 .cases e
structure TabOk (L:Bool) (t:SetTable):Prop where
 led:t.led=L
 ris:t.plain=true->Ris t.place
theorem TabOk.standIn {L:Bool}{t:SetTable}(h:TabOk L t)(n:Nat):TabOk L (t.standIn n):=⟨h.led,λz=>by cases z⟩
theorem layNew_ok {L:Bool}{t:SetTable}(h:TabOk L t)(es:Array (Int×Value))(k:Int)(x:Value):TabOk L (layNew t es k x).2.1:=by
 unfold layNew
 split
 .rename_i j b e
  show TabOk L ((t.put j).1.orStandIn _)
  have hp:TabOk L (t.put j).1:=⟨h.led,λz=>ris_ins (h.ris z) (free_ne e)⟩
  unfold SetTable.orStandIn
  split
  .exact hp
  .exact hp.standIn _
 .exact h.standIn _
theorem relayAll_ok {L:Bool}{t:SetTable}(h:TabOk L t)(es:Array (Int×Value))(n:Nat):TabOk L (relayAll t es n).2.1:=by
 unfold relayAll
 split
 .rename_i t' o e
  have hp : TabOk L t':=by
   unfold SetTable.relaid SetTable.laid at e
   cases hl:SetTable.layClean (SetTable.sizeAbove n-1) (es.map (·.1)) with
   |none=>rw[hl]at e;cases e
   |some ow=>
    rw[hl]at e
    cases e
    refine⟨h.led,λ_=>?_⟩
    show ((List.filterMap _ _).map _).toArray.toList.Pairwise _
    rw[List.toList_toArray,List.map_filterMap]
    have key:∀l:List Nat,l.Pairwise (· < ·)->(l.filterMap λj=>Option.map (·.1) ((ow.getD j none).map ((j,·):Nat->Nat×Nat))).Pairwise (· < ·):=λl hl=>by
     refine List.Pairwise.filterMap _ (λa a' haa b hb b' hb'=>?_) hl
     cases hx:ow.getD a none with
     |none=>rw[hx]at hb;cases hb
     |some y=>
      cases hy:ow.getD a' none with
      |none=>rw[hy]at hb';cases hb'
      |some y'=>rw[hx]at hb;rw[hy]at hb';cases hb;cases hb';exact haa
    exact key _ List.pairwise_lt_range
  dsimp only
  split
  .exact hp
  .exact h.standIn _
 .exact h.standIn _
def SetX (L:Bool)(a:Addr)(ms:List Int)(h:Heap):Prop:=∃es ep t,h.get? a=some {cls:=.type "set",dict:=none,data:=.set es ep t}/\(∀e∈es.toList,∃k u,e=(hashInt k,Value.int k u))/\es.toList.map (λe=>numOf e.2)=ms/\ms.Nodup/\es.size<scanBound/\t.fits es.size=true/\TabOk L t
section
variable {prog:Program}{w:World}{A:Around}{E:Value->Shared->Prop}{s:Shared}{L:Bool}{a:Addr}{ms:List Int}
theorem elems_of {es:List (Int×Value)}(h:∀e∈es,∃k u,e=(hashInt k,Value.int k u)):ElemsOf (intKind prog w) es:=λe he=>by
 obtain⟨k,u,rfl⟩:=h e he
 exact⟨⟨k,intKind_is _ _ _ _,rfl⟩,rfl⟩
theorem find_mem {es:List (Int×Value)}{ms:List Int}{k:Int}(h:∀e∈es,∃k u,e=(hashInt k,Value.int k u))(hm:es.map (λe=>numOf e.2)=ms):(es.findIdx? λe=>(intKind prog w).is k e.2)=none↔k∉ms:=by
 have is_iff:∀e∈es,(intKind prog w).is k e.2=true↔numOf e.2=k:=λe he=>by
  obtain⟨k',u,rfl⟩:=h e he
  show (k'==k)=true↔k'=k
  exact beq_iff_eq
 rw[List.findIdx?_eq_none_iff,<- hm,mem_map]
 constructor
 .rintro z ⟨e,he,q⟩
  have:=z e he
  rw[(is_iff e he).mpr q]at this;cases this
 .intro z e he
  cases q:(intKind prog w).is k e.2 with
  |false=>rfl
  |true=>exact absurd ⟨e,he,(is_iff e he).mp q⟩ z
theorem SetX.store {es es':Array (Int×Value)}{ep:Nat}{t t':SetTable}{h:Heap}(ho:h.get? a=some {cls:=.type "set",dict:=none,data:=.set es ep t})(he:∀e∈es'.toList,∃k u,e=(hashInt k,Value.int k u))
  (hm:es'.toList.map (λe=>numOf e.2)=ms) (hn:ms.Nodup) (hb:es'.size<scanBound) (hf:t'.fits es'.size=true) (ht:TabOk L t'):
  (h.update a (Obj.putSet es' t')).get? a=some {cls:=.type "set",dict:=none,data:=.set es' (ep+1) t'}/\SetX L a ms (h.update a (Obj.putSet es' t')):=by
 have e:=get?_update_self (Obj.putSet es' t') ho (by rw[putSet_of es' t' rfl];rfl)
 rw[putSet_of es' t' rfl]at e
 exact⟨e,es',ep+1,t',e,he,hm,hn,hb,hf,ht⟩
theorem add_int {k:Int}{u:Tok}{Q:Bool->Shared->Prop}(hS:SetX L a ms s.heap)(hroom:ms.length+1<scanBound)
  (h:∀h' ms',Heap.SameBut a s.heap h'->SetX L a ms' h'->ms'.Perm (if k∈ms then ms else k::ms)->∀b,Q b {s with heap:=h'}):wpAny (model prog w) A (setAddHashed a (.int k u) (hashInt k)) Q E s:=by
 obtain⟨es,ep,t,ho,he,hm,hn,hb,hf,ht⟩:=hS
 have hl:es.size=ms.length:=by rw[<- hm,length_map,length_toList]
 have hel:=elems_of (prog:=prog) (w:=w) he
 have hkey:=intKind_is prog w k u
 have hgw:∀(b:Bool) {s₁:Shared} {Q':Unit->Shared->Prop},Q' () s₁->wpAny (model prog w) A (match b with |true=>rule "set.scan.the-table-gave-way" |false=>pure ()) Q' E s₁:=λb s₁ Q' hq=>by
  cases b
  .exact wpAny_pure hq
  .exact wpAny_rule hq
 unfold setAddHashed setAddHashedIn
 refine wpAny_holding (wpAny_bind (wpAny_setState_of ho rfl hf ?_))
 dsimp only
 rw[byScan_of (knd:=intKind prog w) rfl hb hel,if_pos rfl]
 unfold setAddByScan
 refine wpAny_bind (wpAny_bind (wpAny_rule (wpAny_bind (wpAny_setScan_of (knd:=intKind prog w) hkey ho rfl hf hel ?_))))
 have hfm:=find_mem (prog:=prog) (w:=w) (k:=k) he hm
 cases hr:List.findIdx? (λe=>(intKind prog w).is k e.2) es.toList with
 |some j=>
  dsimp only
  have hk:k∈ms:=Decidable.byContradiction λz=>by rw[hfm.mpr z]at hr;cases hr
  refine wpAny_pure (wpAny_pure ?_)
  have:=h s.heap ms (Heap.SameBut.refl a s.heap) ⟨es,ep,t,ho,he,hm,hn,hb,hf,ht⟩ (by rw[if_pos hk])
  exact this _
 |none=>
  dsimp only
  have hk:k∉ms:=hfm.mp hr
  have hp:=layNew_perm t es (hashInt k) (.int k u)
  have hf1:=layNew_fits t es (hashInt k) (.int k u)
  have ht1:=layNew_ok ht es (hashInt k) (.int k u)
  generalize layNew t es (hashInt k) (.int k u)=Ln at hp hf1 ht1 ⊢
  obtain⟨es1,t1,wd,gv⟩:=Ln
  dsimp only at hp hf1 ht1 ⊢
  rw[Array.toList_push]at hp
  have he1:∀e∈es1.toList,∃k u,e=(hashInt k,Value.int k u):=λe hx=>by
   rcases mem_append.mp (hp.mem_iff.mp hx) with z |z
   .exact he e z
   .exact ⟨k,u,mem_singleton.mp z⟩
  have hm1:(es1.toList.map λe=>numOf e.2).Perm (k::ms):=by
   refine (hp.map _).trans ?_
   rw[map_append,hm]
   exact List.perm_append_comm
  have hn1:(es1.toList.map λe=>numOf e.2).Nodup:=hm1.nodup_iff.mpr (nodup_cons.mpr ⟨hk,hn⟩)
  have hb1:es1.size<scanBound:=by
   rw[<- length_toList,hp.length_eq,length_append,length_toList,hl];exact hroom
  have fin:∀h' ms',Heap.SameBut a s.heap h'->SetX L a ms' h'->ms'.Perm (k::ms)->∀b,Q b {s with heap:=h'}:=λh' ms' x y z=>h h' ms' x y (by rw[if_neg hk];exact z)
  clear h
  refine wpAny_bind (hgw _ ?_)
  have tail:∀t2:SetTable,t2.fits es1.size=true->TabOk L t2->wpAny (model prog w) A (do
    storeSet a es1 t2
    if (!wd && t2.tooFull)=true then do
      (match (relayAll t2 es1 (SetTable.grown es1.size)).2.2 with |true=>rule "set.scan.the-table-gave-way" |false=>pure ())
      storeSet a (relayAll t2 es1 (SetTable.grown es1.size)).1 (relayAll t2 es1 (SetTable.grown es1.size)).2.1
      pure (some true)
     else pure (some true)) (λ(o:Option Bool) s'=>∃h' ms',o=some true/\s'={s with heap:=h'}/\Heap.SameBut a s.heap h'/\SetX L a ms' h'/\ms'.Perm (k::ms)) E s:=λt2 hf2 ht2=>by
   refine wpAny_bind (wpAny_storeSet_of ho rfl ?_ (fits_of_scanBound hb1))
   obtain⟨ho1,hS1⟩:=SetX.store ho he1 rfl hn1 hb1 hf2 ht2
   have sb1:=Heap.SameBut.update s.heap a (Obj.putSet es1 t2)
   split
   .have hp2:=relayAll_perm t2 es1 (SetTable.grown es1.size)
    have hf3:=relayAll_fits t2 es1 (SetTable.grown es1.size)
    have ht3:=relayAll_ok ht2 es1 (SetTable.grown es1.size)
    generalize relayAll t2 es1 (SetTable.grown es1.size)=Rl at hp2 hf3 ht3 ⊢
    obtain⟨es2,t3,g2⟩:=Rl
    dsimp only at hp2 hf3 ht3 ⊢
    have hb2:es2.size<scanBound:=by rw[<- length_toList,hp2.length_eq,length_toList];exact hb1
    have hm2:=(hp2.map λe:Int×Value=>numOf e.2).trans hm1
    refine wpAny_bind (hgw _ (wpAny_bind (wpAny_storeSet_of ho1 rfl ?_ (fits_of_scanBound hb2))))
    obtain⟨_,hS2⟩:=SetX.store ho1 (λe hx=>he1 e (hp2.mem_iff.mp hx)) rfl (hm2.nodup_iff.mpr (nodup_cons.mpr ⟨hk,hn⟩)) hb2 hf3 ht3
    exact wpAny_pure ⟨_,_,rfl,rfl,sb1.trans (Heap.SameBut.update _ a _),hS2,hm2⟩
   .exact wpAny_pure ⟨_,_,rfl,rfl,sb1,hS1,hm1⟩
  split
  .refine wpAny_bind ?_
   rw[hashByValue_scannable 8 rfl]
   refine wpAny_pure ?_
   refine wpAny_mono (tail t1 hf1 ht1) (λo s' hq=>?_) λ_ _ z=>z
   obtain⟨h',ms',rfl,rfl,z1,z2,z3⟩:=hq
   exact wpAny_pure (fin h' ms' z1 z2 z3 _)
  .refine wpAny_bind (wpAny_pure ?_)
   refine wpAny_mono (tail t1 hf1 ht1) (λo s' hq=>?_) λ_ _ z=>z
   obtain⟨h',ms',rfl,rfl,z1,z2,z3⟩:=hq
   exact wpAny_pure (fin h' ms' z1 z2 z3 _)
end
open PySem PyProof.Rows PySem.Spec
section
variable {prog:Program}{w:World}{A:Around}{R:Result->Shared->Prop}{I:Addr}{fp wr:List Addr}{δ:Array GenState->Array GenState->Prop}{n:Nat}{P:Nat->Value->Prop}{St:Nat->Shared->Prop}{L:Bool}
end
section
variable {prog:Program}{w:World}{A:Around}{E:Value->Shared->Prop}{s:Shared}
end
namespace SI
theorem own:Manifest.owners.lookup (String.ofList ['r','o','t','a','r','e','t','i','_','t','e','s'].reverse)=some Manifest.sig_set_iterator:=by kernel_rfl
theorem slot:Slot "set_iterator" "__next__" "set_iterator.__next__":=
 .of (owner := "set_iterator") (n := "__next__") (by rw[typeLookup_type,builtinLookup_eq_fast];kernel_rfl) (by decide +kernel) (by decide +kernel) (by decide +kernel) (by first |exact .inl (by decide +kernel) |exact .inr (by decide +kernel)) (by rw[isSubtype_type];kernel_rfl)
end SI
section
variable {prog:Program}{w:World}{A:Around}{E:Value->Shared->Prop}{s:Shared}{it a:Addr}{es:Array (Int×Value)}{ep:Nat}{t:SetTable}
end
open PySem PyProof.Rows PySem.Spec
namespace SI
end SI
section
variable {prog:Program}{w:World}{A:Around}{E:Value->Shared->Prop}{s:Shared}{it a:Addr}{es:Array (Int×Value)}{ep:Nat}{t:SetTable}
end
open PySem PyProof.Rows PySem.Spec
section
variable {prog:Program}{w:World}{A:Around}{E:Value->Shared->Prop}{s:Shared}{a:Addr}{ms:List Int}
end
section
variable {prog:Program}{w:World}{A:Around}{E:Value->Shared->Prop}{s:Shared}{st:SortSt}{a₀:Array Keyed}
end
open PySem PySem.Spec PyProof.Rows
section
variable {X:Cx}{K:Frag}
end
section
variable {κ:Type}[DecidableEq κ]
def valV (kvs:List (κ×V))(k:κ):Option V:=(kvs.find? λkv=>decide (kv.1=k)).map (·.2)
def putK (kvs:List (κ×V))(k:κ)(v:V):List (κ×V):=
 if (kvs.any λkv=>decide (kv.1=k))=true then kvs.map (λkv=>if kv.1=k then (kv.1,v) else kv) else kvs++[(k,v)]
def dropK (kvs:List (κ×V))(k:κ):List (κ×V):=kvs.filter λkv=>decide (kv.1≠k)
theorem valV_pos {p:κ×V}{r:List (κ×V)}{k:κ}(e:p.1=k):valV (p::r) k=some p.2:=by simp[valV,find?_cons,e]
theorem valV_neg {p:κ×V}{r:List (κ×V)}{k:κ}(e:¬ p.1=k):valV (p::r) k=valV r k:=by simp[valV,find?_cons,e]
theorem valV_any (k:κ):∀kvs:List (κ×V),(kvs.any λkv=>decide (kv.1=k))=(valV kvs k).isSome
 | []=>rfl
 |p::r=>by
  rw[any_cons]
  by_cases e:p.1=k
  .simp only[valV_pos e,decide_eq_true e,Bool.true_or,Option.isSome_some]
  .rw [valV_neg e,decide_eq_false e,Bool.false_or];exact valV_any k r
theorem RelO.isSome_eq {o:Option V}{u:Option Value}(r:RelO o u):o.isSome=u.isSome:=by
 cases o with
 |none=>cases u with
  |none=>rfl
  |some _=>exact (show False from r).elim
 |some _=>cases u with
  |none=>exact (show False from r).elim
  |some _=>rfl
theorem RelO.getD {o:Option V}{u:Option Value}{d:V}{d':Value}(r:RelO o u)(rd:RelV d d'):RelV (o.getD d) (u.getD d'):=by
 cases o with
 |none=>cases u with
  |none=>exact rd
  |some _=>exact (show False from r).elim
 |some _=>cases u with
  |none=>exact (show False from r).elim
  |some _=>exact r
theorem KV.val {kvs:List (κ×V)}{vs:List (κ×Value)}(r:KV kvs vs)(k:κ):RelO (valV kvs k) (valueAt vs k):=by
 unfold KV at r
 induction r with
 |nil=>exact True.intro
 | @cons p q ps qs h t ih=>
  obtain⟨h1,h2⟩:=h
  by_cases e:p.1=k
  .have e':q.1=k:=h1.symm.trans e
   have b:valueAt (q::qs) k=some q.2:=by simp[valueAt,find?_cons,e']
   rw[valV_pos e,b];exact h2
  .have e':¬ q.1=k:=λz=>e (h1.trans z)
   have b:valueAt (q::qs) k=valueAt qs k:=by simp[valueAt,find?_cons,e']
   rw[valV_neg e,b];exact ih
theorem KV.any {kvs:List (κ×V)}{vs:List (κ×Value)}(r:KV kvs vs)(k:κ):(kvs.any λkv=>decide (kv.1=k))=vs.any λkv=>decide (kv.1=k):=by
 unfold KV at r
 induction r with
 |nil=>rfl
 |cons h t ih=>rw[any_cons,any_cons,ih,h.1]
theorem KV.repl {kvs:List (κ×V)}{vs:List (κ×Value)}(r:KV kvs vs)(k:κ){y:V}{u:Value}(ry:RelV y u):
  KV (kvs.map λkv=>if kv.1=k then (kv.1,y) else kv) (vs.map λkv=>if kv.1=k then (kv.1,u) else kv):=by
 unfold KV at r ⊢
 induction r with
 |nil=>exact .nil
 | @cons p q ps qs h t ih=>
  rw[map_cons,map_cons]
  refine .cons ?_ ih
  obtain⟨h1,h2⟩:=h
  by_cases e:p.1=k
  .rw [if_pos e,if_pos (h1.symm.trans e)];exact⟨h1,ry⟩
  .rw [if_neg e,if_neg (λz=>e (h1.trans z))];exact⟨h1,h2⟩
theorem KV.put {kvs:List (κ×V)}{vs:List (κ×Value)}(r:KV kvs vs)(k:κ){y:V}{u:Value}(ry:RelV y u):KV (putK kvs k y) (stored vs k u):=by
 unfold putK stored
 rw[r.any k]
 by_cases e:(vs.any λkv=>decide (kv.1=k))=true
 .rw [if_pos e,if_pos e];exact r.repl k ry
 .rw [if_neg e,if_neg e];exact Paired.snoc r ⟨rfl,ry⟩
theorem KV.drop {kvs:List (κ×V)}{vs:List (κ×Value)}(r:KV kvs vs)(k:κ):KV (dropK kvs k) (without vs k):=by
 unfold KV at r ⊢
 unfold dropK without
 induction r with
 |nil=>exact .nil
 | @cons p q ps qs h t ih=>
  obtain⟨h1,h2⟩:=h
  rw[filter_cons,filter_cons]
  by_cases e:p.1=k
  .have a:¬ decide (p.1≠k)=true:=by simp[e]
   have b:¬ decide (q.1≠k)=true:=by simp[h1.symm.trans e]
   rw[if_neg a,if_neg b];exact ih
  .have e':¬ q.1=k:=λz=>e (h1.trans z)
   have a:decide (p.1≠k)=true:=by simp[e]
   have b:decide (q.1≠k)=true:=by simp[e']
   rw[if_pos a,if_pos b];exact .cons ⟨h1,h2⟩ ih
theorem KV.length {kvs:List (κ×V)}{vs:List (κ×Value)}(r:KV kvs vs):kvs.length=vs.length:=Paired.length r
end
abbrev KT (H:Hp):List (List Key×V)->List (List Key×Addr×Value)->Prop:=Paired λp q=>p.1=q.1/\H q.2.1=some (.tup (p.1.map kV))/\RelV p.2 q.2.2
theorem KT.val {H:Hp}{kvs:List (List Key×V)}{xs:List (List Key×Addr×Value)}(r:KT H kvs xs)(k:List Key):RelO (valV kvs k) ((atKey xs k).map (·.2)):=by
 induction r with
 |nil=>exact True.intro
 | @cons p q ps qs h t ih=>
  obtain⟨h1,_,h2⟩:=h
  by_cases e:p.1=k
  .have e':q.1=k:=h1.symm.trans e
   have b:atKey (q::qs) k=some q.2:=by simp[atKey,find?_cons,e']
   rw[valV_pos e,b];exact h2
  .have e':¬ q.1=k:=λz=>e (h1.trans z)
   have b:atKey (q::qs) k=atKey qs k:=by simp[atKey,find?_cons,e']
   rw[valV_neg e,b];exact ih
theorem KT.repl {H:Hp}{kvs:List (List Key×V)}{xs:List (List Key×Addr×Value)}(r:KT H kvs xs)(k:List Key){y:V}{u:Value}(ry:RelV y u):
  KT H (kvs.map λkv=>if kv.1=k then (kv.1,y) else kv) (xs.map (putAt k u)):=by
 induction r with
 |nil=>exact .nil
 | @cons p q ps qs h t ih=>
  rw[map_cons,map_cons]
  refine .cons ?_ ih
  obtain⟨h1,h2,h3⟩:=h
  unfold putAt
  by_cases e:p.1=k
  .rw [if_pos e,if_pos (h1.symm.trans e)];exact⟨h1,h2,ry⟩
  .rw [if_neg e,if_neg (λz=>e (h1.trans z))];exact⟨h1,h2,h3⟩
theorem KT.put {H:Hp}{kvs:List (List Key×V)}{xs:List (List Key×Addr×Value)}(r:KT H kvs xs)(k:List Key){b:Addr}{y:V}{u:Value}(hb:H b=some (.tup (k.map kV)))(ry:RelV y u):
  KT H (putK kvs k y) (storedH xs k b u):=by
 have e:(kvs.any λkv=>decide (kv.1=k))=(atKey xs k).isSome:=by
  rw[valV_any,(r.val k).isSome_eq,Option.isSome_map]
 unfold putK storedH
 rw[e]
 by_cases q:(atKey xs k).isSome=true
 .rw [if_pos q,if_pos q];exact r.repl k ry
 .rw [if_neg q,if_neg q];exact Paired.snoc r ⟨rfl,hb,ry⟩
theorem KT.keeps {H H':Hp}{kvs:List (List Key×V)}{xs:List (List Key×Addr×Value)}(r:KT H kvs xs)(ht:∀b ys,H b=some (.tup ys)->H' b=some (.tup ys)):KT H' kvs xs:=
 Paired.mapP r λ_ _ z=>⟨z.1,ht _ _ z.2.1,z.2.2⟩
section
variable {P:Program}{w:World}{H:Hp}{h:Heap}{a:Addr}
end
section
variable {X:Cx}{pins:List (Addr×Obj)}{Y:St}{H:Hp}{s:Shared}{a:Addr}{y v:V}{u r:Value}{o:Option V}{A:Around}{E:Value->Shared->Prop}
end
section
variable {X:Cx}{o i e value:Expr}{pos pos' tpos:Pos}{td ty tv:TE}
end
section
variable {X:Cx}{pos:Pos}
end
open PySem PySem.Spec PyProof.Rows PyProof.V PySem.W
section
variable {prog:Program}{w:World}{A:Around}{E:Value->Shared->Prop}{s:Shared}{d:Addr}{kvs:List (Key×Value)}{ep:Nat}
end
section
variable {X:Cx}
end
section
variable {X:Cx}{K:Frag}
end
namespace F2
end F2
section
variable {prog:Program}{w:World}{A:Around}{E:Value->Shared->Prop}{h:Heap}{g:Array GenState}{d:Drawn}{t:Nat}{os:OsState}{a:Addr}{xs:Array Value}{c:Nat}
def DictOb (prog:Program)(w:World)(dd:Addr)(xs:List (List Key×Addr×Value))(h:Heap):Prop:=
 ∃o es ep,h.get? dd=some o/\o.ExactDict/\o.data = .dict es ep/\es.toList=xs.map (entryOfKey (tupleKind (mixKind prog w)))/\(xs.map (·.1)).Nodup
theorem DictOb.of {xs:List (List Key×Addr×Value)}{dd:Addr}(x:h.DictOfH (tupleKind (mixKind prog w)) dd xs):DictOb prog w dd xs h:=
 let⟨o,es,ep,h1,h2,h3,h4,_,h5⟩:=x;⟨o,es,ep,h1,h2,h3,h4,h5⟩
end
section
variable {X:Cx}
end
open PySem PySem.Spec PyProof.Rows PyProof.V PySem.W
theorem CalX.of {P:Program}{w:World}{K:Frag}{mg:Str->Option Value}{base:Heap}{x:Str}{st:Stmt}{f:Addr}{fd:FuncData}{N ps:List Str}{k:Nat}{sp:Sp}(D:DefAt K mg x st f fd)(S:FnScope N ps (defScope st))
  (hb:∀(kV doc pm:Value) (an:Option Addr) (cdv ct:Value) (us:List Value),us.length=ps.length->bindArgs (fnOf x x (defArgs st) (defBody st) (defScope st) .none kV doc pm an cdv ct) ⟨us,[]⟩=pure (ps.zip us))
  (len:∀vs H Q E,sp vs H Q E->vs.length=ps.length)
  (hbody:∀(cdv:Value) (A:Around) (outer:List Env) (s:Shared) (H:Hp) (vs:List V) (Q:VK) (E:XK),Room k (A.deeper (envOfC x (defScope st) s.heap.objs.size f cdv))->sp vs H Q E->
   ∃t,PSs (cxOf (CXE P w) P w K mg base N x (defScope st) f cdv A outer s H E) (defBody st) t/\t {nx:=λ_ H'=>Q .non H',rt:=Q} (start N vs) H):CalX P w K mg base x (k+1) ps sp:=by
 obtain⟨oc,od,kV,doc,pm,an,cdv,ct,osl,rfl,lk,hcd⟩:=D.fn.ex
 exact⟨f,_,fn_of lk hcd S len λA outer s H vs Q E hr h=>hbody cdv A outer s H vs Q E hr h,D.here,D.fn.kp,D.fn.binds hb⟩
section
variable {X:Cx}
end
section
variable {X:Cx}
end
structure RoomH (k:Nat) (A:Around):Prop where
 dp:A.depth+3*k+5<recursionLimit
 un:A.units+16*k+200<cLine
theorem RoomH.depth {k:Nat}{A:Around}(r:RoomH k A):A.depth<recursionLimit:=by have:=r.dp;omega
theorem RoomH.deeper {k:Nat}{A:Around}(r:RoomH (k+1) A)(env:Env):RoomH k (A.deeper env):=⟨by have:=r.dp;show A.depth+1+3*k+5<_;omega,by have:=r.un;show A.units+3+16*k+200<_;omega⟩
def cxOfH (P:Program)(w:World)(K:Frag)(mg:Str->Option Value)(base:Heap)(N:List Str)(qual:Str)(scope:Scope)(f:Addr)(cd:Value)(A:Around)(outer:List Env)(s:Shared)(H:Hp)(E:XK):Cx:=
 {cxOf CX0 P w K mg base N qual scope f cd A outer s H E with calm:=false,xe:=λ_ _=>False}
structure FnOkH (P:Program) (w:World) (K:Frag) (mg:Str->Option Value) (base:Heap) (k:Nat) (f:Addr) (fd:FuncData) (ps:List Str) (sp:Sp):Prop where
 len:∀vs H Q E,sp vs H Q E->vs.length=ps.length
 run:∀(A:Around) (outer:List Env) (s:Shared) (H:Hp) (args:Args) (us:List Value) (vs:List V) (Q:VK) (E:XK),RoomH k A->Env0 P w K mg base A outer s H->BindsTo s fd args (ps.zip us)->Vals vs us->sp vs H Q E->codeAny (model P w) A (.call (.ref f) args) (CR CX0 outer P w H s Q E) s
structure CalH (P:Program) (w:World) (K:Frag) (mg:Str->Option Value) (base:Heap) (x:Str) (k:Nat) (ps:List Str) (sp:Sp):Prop where
 ex:∃f fd,FnOkH P w K mg base k f fd ps sp/\mg x=some (.ref f)/\keepIn K (.ref f)=true/\Binds K fd ps []
theorem inv_startH {P:Program}{w:World}{K:Frag}{mg:Str->Option Value}{base:Heap}{N ps:List Str}{qual:Str}{scope:Scope}{f:Addr}{cd:Value}{A:Around}{outer:List Env}{s s1:Shared}{H:Hp}{E:XK}{us:List Value}{vs:List V}
  (S:FnScope N ps scope) (e0:Env0 P w K mg base A outer s H) (hl:vs.length=ps.length) (r:Vals vs us)
  (x:InCallC s s.heap.objs.size (bindL (envOfC qual scope s.heap.objs.size f cd).kindOf (ps.zip us) λ_=>none) (cellsFrom (s.heap.objs.size+1) scope.names []) (bindC (envOfC qual scope s.heap.objs.size f cd).kindOf (ps.zip us) λ_=>none) s1):
  Inv (cxOfH P w K mg base N qual scope f cd A outer s H E) [] (start N vs) H s1:=by
 have e1:Env0 P w K mg base {A with handled:=none} outer s H:=⟨e0.frames,e0.mod,e0.bs,e0.bsz,e0.funs,e0.frf,e0.hok,e0.bare⟩
 have I:=inv_start (CX:=CX0) (E:=E) S rfl e1 hl r x
 have o:=I.ok
 exact⟨⟨o.mod,o.kind,o.glob,o.blt,o.above,o.inj,o.has,o.cab,λz=>(by cases z),o.frames,o.stk,o.exf,o.bs,o.bsz,o.noex,o.exfs,o.funs,o.frf⟩,I.os,I.bare,I.base,I.loc,I.cell,I.free,I.freeC,I.pin,I.hok,I.len⟩
theorem fn_ofH {P:Program}{w:World}{K:Frag}{mg:Str->Option Value}{base:Heap}{k:Nat}{f:Addr}{name qual:Str}{params:Arguments}{body:List Stmt}{scope:Scope}{dV kV doc pm cdv ct oc:Value}{an od:Option Addr}
  {osl:Array (Option Value)} {N ps:List Str} {sp:Sp} (lk:K.lookup f=some ⟨oc,od,.func (fnOf name qual params body scope dV kV doc pm an cdv ct),osl⟩) (hcd:codeIn K cdv qual=true) (S:FnScope N ps scope)
  (len:∀vs H Q E,sp vs H Q E->vs.length=ps.length)
  (hbody:∀(A:Around) (outer:List Env) (s:Shared) (H:Hp) (vs:List V) (Q:VK) (E:XK),RoomH k (A.deeper (envOfC qual scope s.heap.objs.size f cdv))->sp vs H Q E->
   ∃t,PSs (cxOfH P w K mg base N qual scope f cdv A outer s H E) body t/\t {nx:=λ_ H'=>Q .non H',rt:=Q} (start N vs) H):
  FnOkH P w K mg base (k+1) f (fnOf name qual params body scope dV kV doc pm an cdv ct) ps sp:=by
 refine⟨len,λA outer s H args us vs Q E hr e0 hb r hsp=>?_⟩
 have hl:=len _ _ _ _ hsp
 have KX:K.In s.heap:=e0.mod.kin.keeps λb o e=>(e0.bs b o e).1
 have lim:s.heap.NoLimit:=e0.mod.nolimit.keeps λb o e=>(e0.bs b o e).1
 have hkind:∀y∈ps.zip us,scope.names.lookup y.1=some .local∨(scope.names.lookup y.1=some .cell/\((cellsFrom (s.heap.objs.size+1) scope.names []).lookup y.1).isSome=true):=λ⟨n,v⟩ hy=>by
  rcases S.par n (of_mem_zip hy).1 with q |q
  .exact .inl q
  .exact .inr ⟨q,cellsFrom_some _ _ _ (.inl q)⟩
 refine codeAny_call_function hr.depth (KX _ _ lk) rfl S.co S.gen rfl (codeRec_of KX hcd) (hb _ _ _ _ ?_)
 refine wpAny_newFunctionEnv_cells S.kind hkind λenv he s1 x=>?_
 subst he
 refine⟨lim.keeps x.toInCall.keep,codeAny_func ?_⟩
 obtain⟨t,ht,hq⟩:=hbody A outer s H vs Q E (hr.deeper _) hsp
 have I:Inv (cxOfH P w K mg base N qual scope f cdv A outer s H E) [] (start N vs) H s1:=inv_startH S e0 hl r x
 refine wpAny_mono (ht [] s1 (start N vs) H _ I hq) (λfl s' hs=>?_) λe s' hs=>False.elim hs
 have fin:∀{Y':St} {H':Hp} {v:V} {u:Value},Inv (cxOfH P w K mg base N qual scope f cdv A outer s H E) [] Y' H' s'->RelV v u->Q v H'->CE outer P w H s Q u s':=
  λ{Y' H' v u} J rv q=>⟨v,H',J.os,J.bare,J.base,J.hok,rv,q⟩
 cases fl with
 |ret u=>
  obtain⟨v,Y',H',J,rv,q⟩:=hs
  exact fin J rv q
 |next=>
  obtain⟨Y',H',J,q⟩:=hs
  exact fin (v:=V.non) J rfl q
 |brk=>
  obtain⟨_,_,_,q⟩:=hs
  exact False.elim q
 |cont=>
  obtain⟨_,_,_,q⟩:=hs
  exact False.elim q
theorem CalH.of {P:Program}{w:World}{K:Frag}{mg:Str->Option Value}{base:Heap}{x:Str}{st:Stmt}{f:Addr}{fd:FuncData}{N ps:List Str}{k n:Nat}{sp:DSp}(Df:DefAt K mg x st f fd)(S:FnScope N ps (defScope st))
  (hb:∀(kV doc pm:Value) (an:Option Addr) (cdv ct:Value) (us:List Value),us.length=ps.length->bindArgs (fnOf x x (defArgs st) (defBody st) (defScope st) .none kV doc pm an cdv ct) ⟨us,[]⟩=pure (ps.zip us)) (hn:n=ps.length)
  (hbody:∀(cdv:Value) (A:Around) (outer:List Env) (s:Shared) (H:Hp) (E:XK),RoomH k (A.deeper (envOfC x (defScope st) s.heap.objs.size f cdv))->
   ∃t T,PSs (cxOfH P w K mg base N x (defScope st) f cdv A outer s H E) (defBody st) t/\SimS K t T/\∀ds Pr,sp ds Pr->T {nx:=λ_=>Pr (.fz .non),rt:=Pr} (startV N ds)):CalH P w K mg base x (k+1) ps (spV K n sp):=by
 obtain⟨oc,od,kV,doc,pm,an,cdv,ct,osl,rfl,lk,hcd⟩:=Df.fn.ex
 refine⟨f,_,fn_ofH lk hcd S (λvs H Q E h=>by rw[<- hn];exact h.1) λA outer s H vs Q E hr h=>?_,Df.here,Df.fn.kp,Df.fn.binds hb⟩
 obtain⟨_,F,ds,Pr,hs,hr',hsp,hq⟩:=h
 obtain⟨t,T,h1,h2,h3⟩:=hbody cdv A outer s H E hr
 refine⟨t,h1,h2 F H F H (start N vs) (startV N ds) {nx:=λ_=>Pr (.fz .non),rt:=Pr} _ ⟨_,startV_er hs hr'⟩ ⟨λF' H' Y G e p=>?_,λ_ _ _ _ _ z=>z.elim,λ_ _ _ _ _ z=>z.elim,λF' H' r v x n p=>hq r v F' H' p x n⟩ (h3 ds Pr hsp)⟩
 exact hq _ _ F' H' p e.ext (.fz rfl)
section
variable {X:Cx}{pos pos':Pos}{o i value:Expr}{td ty tv:TE}
end
def Safe (I:Heap->Prop){α:Type}:Sem α->Prop
 | .pure _=>True
 | .raise _=>False
 | .unsupported _=>True
 | .finish _=>True
 | .rule _ k=>Safe I (k ())
 | .at _ k=>Safe I (k ())
 | .load _ _ k=>∀o,Safe I (k o)
 | .update a _ f k=>(∀h,I h->I (h.update a f))/\Safe I (k ())
 | .alloc o k=>(∀h,I h->I (h.push o))/\∀a,Safe I (k a)
 | .loadIfAlive _ k=>∀o,Safe I (k o)
 | .point _ k=>Safe I (k ())
 | .register _ _=>True
 | .fresh k=>∀t,Safe I (k t)
 | .ask k=>∀t,Safe I (k t)
 | .choose _ _ k=>∀t,Safe I (k t)
 | .os _ _ k=>∀t,Safe I (k t)
 | .call _ _ _ _ _=>False
 | .handled _ k=>∀t,Safe I (k t)
 | .newGen _ k=>∀t,Safe I (k t)
 | .genState _ k=>∀t,Safe I (k t)
 | .resume _ _ _ _=>False
 | .yield _ _ _ _=>True
 | .stack k=>∀t,Safe I (k t)
 | .fork _ _=>True
 | .thread k=>∀t,Safe I (k t)
 | .await _ _ _ _ _=>True
section
variable {I:Heap->Prop}{α β:Type}
theorem Safe.wp {M:Model}{Γ:PySem.Ctx}{Q:α->Pos->Shared->Prop}{E E0:Value->Pos->Shared->Prop}{m:Sem α}:∀{p:Pos} {s:Shared},Safe I m->I s.heap->Sem.wp M Γ m (λa p s'=>I s'.heap->Q a p s') E0 p s->Sem.wp M Γ m Q E p s:=by
 induction m with
 |pure a=>intro p s h i z;rw[Sem.wp]at z ⊢;exact z i
 |raise e=>intro p s h;exact h.elim
 |unsupported w=>intro p s h i z;rw[Sem.wp]at z;exact z.elim
 |finish e=>intro p s h i z;rw[Sem.wp]at z;exact z.elim
 |rule t k ih=>intro p s h i z;rw[Sem.wp]at z ⊢;exact ih () h i z
 | «at» t k ih=>intro p s h i z;rw[Sem.wp]at z ⊢;exact ih () h i z
 |load a q k ih=>intro p s h i z;rw[Sem.wp]at z ⊢;obtain⟨o,e,z⟩:=z;exact⟨o,e,ih o (h o) i z⟩
 |update a q f k ih=>intro p s h i z;rw[Sem.wp]at z ⊢;exact⟨z.1,ih () h.2 (h.1 _ i) z.2⟩
 |alloc o k ih=>intro p s h i z;rw[Sem.wp]at z ⊢;exact ih _ (h.2 _) (h.1 _ i) z
 |loadIfAlive a k ih=>intro p s h i z;rw[Sem.wp]at z ⊢;exact ih _ (h _) i z
 |point l k ih=>intro p s h i z;rw[Sem.wp]at z ⊢;exact ih () h i z
 |register a k ih=>intro p s h i z;rw[Sem.wp]at z;exact z.elim
 |fresh k ih=>intro p s h i z;rw[Sem.wp]at z ⊢;exact ih _ (h _) i z
 |ask k ih=>intro p s h i z;rw[Sem.wp]at z ⊢;exact ih _ (h _) i z
 |choose src n k ih=>intro p s h i z;rw[Sem.wp]at z ⊢;exact⟨z.1,ih _ (h _) i z.2⟩
 |os q l k ih=>intro p s h i z;rw[Sem.wp]at z ⊢;exact ih _ (h _) i z
 |call c h' g l k ih=>intro p s h;exact h.elim
 |handled o k ih=>intro p s h i z;rw[Sem.wp]at z ⊢;exact ih _ (h _) i z
 |newGen c k ih=>intro p s h i z;rw[Sem.wp]at z ⊢;exact ih _ (h _) i z
 |genState g k ih=>intro p s h i z;rw[Sem.wp]at z ⊢;obtain⟨st,e,z⟩:=z;exact⟨st,e,ih _ (h _) i z⟩
 |resume g r l k ih=>intro p s h;exact h.elim
 |yield v g l k ih=>intro p s h i z;rw[Sem.wp]at z;exact z.elim
 |stack k ih=>intro p s h i z;rw[Sem.wp]at z ⊢;exact ih _ (h _) i z
 |fork c k ih=>intro p s h i z;rw[Sem.wp]at z;exact z.elim
 |thread k ih=>intro p s h i z;rw[Sem.wp]at z ⊢;exact ih _ (h _) i z
 |await a t d l k ih=>intro p s h i z;rw[Sem.wp]at z;exact z.elim
theorem wpAny_safe {M:Model}{A:Around}{m:Sem α}{Q:α->Shared->Prop}{E E0:Value->Shared->Prop}{s:Shared}(hS:Safe I m)(hI:I s.heap)(h:wpAny M A m (λa s'=>I s'.heap->Q a s') E0 s):wpAny M A m Q E s:=
 λΓ p hΓ=>Safe.wp hS hI (h Γ p hΓ)
theorem Safe.bind' {m:Sem α}{f:α->Sem β}(hm:Safe I m)(hf:∀a,Safe I (f a)):Safe I (m.bind f):=by
 induction m with
 |pure a=>exact hf a
 |raise e=>exact hm.elim
 |unsupported w=>trivial
 |finish e=>trivial
 |rule t k ih=>exact ih () hm
 | «at» t k ih=>exact ih () hm
 |load a q k ih=>exact λo=>ih o (hm o)
 |update a q f k ih=>exact⟨hm.1,ih () hm.2⟩
 |alloc o k ih=>exact⟨hm.1,λa=>ih a (hm.2 a)⟩
 |loadIfAlive a k ih=>exact λo=>ih o (hm o)
 |point l k ih=>exact ih () hm
 |register a k ih=>trivial
 |fresh k ih=>exact λo=>ih o (hm o)
 |ask k ih=>exact λo=>ih o (hm o)
 |choose src n k ih=>exact λo=>ih o (hm o)
 |os q l k ih=>exact λo=>ih o (hm o)
 |call c h' g l k ih=>exact hm.elim
 |handled o k ih=>exact λo=>ih o (hm o)
 |newGen c k ih=>exact λo=>ih o (hm o)
 |genState g k ih=>exact λo=>ih o (hm o)
 |resume g r l k ih=>exact hm.elim
 |yield v g l k ih=>trivial
 |stack k ih=>exact λo=>ih o (hm o)
 |fork c k ih=>trivial
 |thread k ih=>exact λo=>ih o (hm o)
 |await a t d l k ih=>trivial
theorem Safe.bind {m:Sem α}{f:α->Sem β}(hm:Safe I m)(hf:∀a,Safe I (f a)):Safe I (m >>= f):=Safe.bind' hm hf
end
def Ctx0 (e:Addr)(h:Heap):Prop:=∃oe vs,h.get? e=some oe/\oe.data = .fields vs/\vs.size=6/\vs[2]?=some .none
section
variable {e:Addr}
theorem Ctx0.push {h:Heap}(x:Ctx0 e h)(o:Obj):Ctx0 e (h.push o):=let⟨oe,vs,h1,h2⟩:=x;⟨oe,vs,get?_push_of_some _ h1,h2⟩
theorem Ctx0.upd {h:Heap}(x:Ctx0 e h){a:Addr}{f:Obj->Obj}(hf:∀o vs,o.data = .fields vs->vs.size=6->vs[2]?=some .none->∃vs',(f o).data = .fields vs'/\vs'.size=6/\vs'[2]?=some .none):Ctx0 e (h.update a f):=by
 obtain⟨oe,vs,h1,h2,h3,h4⟩:=x
 by_cases z:a=e
 .subst z
  obtain⟨vs',k1,k2⟩:=hf oe vs h2 h3 h4
  exact⟨f oe,vs',get?_update_self _ h1 (Obj.isFreed_of_fields k1),k1,k2⟩
 .exact ⟨oe,vs,get?_update_of_ne _ z h1,h2,h3,h4⟩
theorem safe_field {v:Value}{i:Nat}:Safe (Ctx0 e) (field v i):=by
 unfold field fieldsOf
 refine .bind ?_ λvs=>?_
 .cases v<;>first |trivial | (refine .bind (λo=>trivial) λo=>?_;cases o.data<;>trivial)
 .split<;>trivial
theorem safe_setField {v x:Value}{i:Nat}(hi:i≠2):Safe (Ctx0 e) (setField v i x):=by
 unfold setField
 cases v<;>try trivial
 unfold updateField
 refine .bind (λo=>trivial) λo=>?_
 cases o.data<;>try trivial
 dsimp only
 split
 .refine ⟨λh z=>z.upd λo vs k1 k2 k3=>⟨_,Obj.data_mapFields k1 _,by simpa using k2,?_⟩,trivial⟩
  rw[Array.getElem?_setIfInBounds_ne hi];exact k3
 .trivial
theorem safe_setFlight {v:Value}{o:Option Addr}:Safe (Ctx0 e) (setFlight v o):=by
 unfold setFlight
 refine .bind safe_field λtb=>?_
 split
 .exact safe_setField (by decide)
 .trivial
theorem safe_stack {α:Type}{f:List (Code×Pos)->Sem α}(h:∀t,Safe (Ctx0 e) (f t)):Safe (Ctx0 e) (stack >>= f):=.bind (λ_=>trivial) h
theorem safe_entryPlaceOf {f:Addr}{b:Bool}:Safe (Ctx0 e) (entryPlaceOf f b):=by
 unfold entryPlaceOf
 refine safe_stack λacts=>?_
 split<;>trivial
theorem safe_newFields {ty:String}{vs:List Value}:Safe (Ctx0 e) (newFields ty vs):=by
 unfold newFields newObj
 dsimp only
 have q:Safe (Ctx0 e) (newObjAsIs (.type ty) (.fields vs.toArray)):=by
  unfold newObjAsIs
  exact .bind ⟨λh z=>z.push _,λa=>trivial⟩ λa=>trivial
 split
 .trivial
 .exact q
theorem safe_readyFrames:∀es:List Env,Safe (Ctx0 e) (readyFrames es)
 | []=>trivial
 |env :: outer=>by
  unfold readyFrames
  cases env.frame with
  |none=>trivial
  |some f=>
   dsimp only
   refine .bind (λo=>trivial) λo=>?_
   split
   .trivial
   .refine .bind ?_ λim=>?_
    .unfold behindIsImport
     split
     .trivial
     .try dsimp only
      split
      .trivial
      .exact .bind safe_field λ_=>trivial
    .refine .bind ?_ λback=>?_
     .unfold keptBack
      cases outer with
      |nil=>
       dsimp only
       split
       .trivial
       .unfold underTheClaimsCaller
        exact .bind (safe_stack λ_=>trivial) λ_=>trivial
      |cons c cs=>trivial
     .refine .bind ⟨λh z=>z.upd λo vs k1 k2 k3=>⟨vs,k1,k2,k3⟩,trivial⟩ λ_=>?_
      exact safe_readyFrames outer
theorem safe_frameOf {env:Env}:Safe (Ctx0 e) (PySem.frameOf env):=by
 unfold PySem.frameOf frameEnvs
 refine .bind (safe_stack λ_=>trivial) λes=>?_
 refine .bind ?_ λo=>?_
 .cases hq:List.dropWhile (λx=>x.frame != env.frame) es with
  |nil=>trivial
  |cons a b=>exact .bind (safe_readyFrames _) λ_=>trivial
 .split<;>trivial
theorem safe_noteFrame {v:Value}{env:Env}:Safe (Ctx0 e) (noteFrame v env):=by
 unfold noteFrame
 cases env.frame with
 |none=>trivial
 |some f=>
  dsimp only
  refine .bind safe_field λhd=>?_
  have tail:∀b,Safe (Ctx0 e) (do setField v 1 (<- EntryCells.newEntry hd (<- PySem.frameOf env) .none (rawInt f) .none (<- entryPlaceOf f b)):Sem Unit):=λb=>
   .bind safe_frameOf λfr=>.bind safe_entryPlaceOf λpl=>.bind safe_newFields λx=>safe_setField (by decide)
  split
  .refine .bind safe_field λh3=>?_
   split
   .trivial
   .refine .bind (safe_setField (by decide)) λ_=>?_
    exact tail _
  .exact tail _
theorem safe_leaving {v:Value}{env:Env}:Safe (Ctx0 e) (leaving env v):=.bind safe_noteFrame λ_=>safe_setFlight
end
section
variable {prog:Program}{w:World}{A:Around}{E:Value->Shared->Prop}{env:Env}
variable {nm q:Str}{C N:Addr}{bs bm:List Value}{hdct:Bool}{sn:List Str}{sub:List Value}{ab:Bool}{col:Option Bool}{dd:Option Addr}{k0 k1 k2 k3 k5:Option Value}{newId:String}
theorem entry_unchain:entryFor table "proto.unchain"=some Builtin.«proto.unchain»:=entryFor_of_tree (by kernel_rfl)
theorem unchain_none {a e:Addr}{h:Heap}{g:Array GenState}{d:Drawn}{t:Nat}{os:OsState}{Q:Value->Shared->Prop}(c0:Ctx0 a h)(hq:Q .none ⟨h,g,d,t,os⟩):
  wpAny (model prog w) A (runValue (.builtin "proto.unchain" ⟨[.ref e,.ref a,.ref a,.bool false],[]⟩)) Q E ⟨h,g,d,t,os⟩:=by
 obtain⟨oe,vs,h1,h2,h3,h4⟩:=c0
 refine wpAny_runValue (codeAny_builtin entry_unchain ?_)
 unfold Builtin.«proto.unchain»
 refine wpAny_bind (wpAny_field h1 h2 h4 ?_)
 rw[if_pos (by decide)]
 exact wpAny_pure hq
theorem made_none {a e t:Addr}{h:Heap}{g:Array GenState}{d:Drawn}{tk:Nat}{os:OsState}{Q:Flow->Shared->Prop}(hbase:bm.contains (.type "BaseException")=true)(hh:A.handled=some (.ref a))(c0:Ctx0 a h)(hae:a≠e)
  (hC:h.get? C=some (excClassObj nm q C N bs bm hdct sn sub ab col dd k0 k1 k2 k3 k5 newId)) (he:h.get? e=some {cls:=.ref C,data:=.fields #[.ref t,.none,.none,.none,.bool false,.none]})
  (hE:∀h',(∀b,b≠e->h'.get? b=h.get? b)->h'.get? e=some {cls:=.ref C,data:=.fields #[.ref t,.none,.ref a,.none,.bool true,.none]}->E (.ref e) ⟨h',g,d,tk,os⟩):
  wpAny (model prog w) A (do
   let e' <- holding (some Value.none).toList (excFromValue (.ref e) "exceptions must derive from BaseException")
   if let some cv:=some Value.none then
    let c <- if cv == .none then pure .none else holding [e'] (excFromValue cv "exception causes must derive from BaseException")
    setField e' 3 c
    setField e' 4 (.bool true)
   let e' <- if <- isType (.ref e) then holding [e'] (raisedFor (.ref e) e') else raisedInstance e'
   setFlight e' none
   raiseNew e') Q E ⟨h,g,d,tk,os⟩:=by
 have hcB:(Value.ref C::bm).contains (.type "BaseException")=true:=by rw[List.contains_cons,hbase,Bool.or_true]
 have c1:Ctx0 a ((h.update e (Obj.mapFields λx=>x.setIfInBounds 3 Value.none)).update e (Obj.mapFields λx=>x.setIfInBounds 4 (Value.bool true))):=by
  obtain⟨oe,vs,h1,h2⟩:=c0
  exact⟨oe,vs,get?_update_of_ne _ (Ne.symm hae) (get?_update_of_ne _ (Ne.symm hae) h1),h2⟩
 have hCe:e≠C:=λz=>by
  rw[<- z,he]at hC
  unfold excClassObj at hC
  cases hC
 have hC2:=get?_update_of_ne (Obj.mapFields λx=>x.setIfInBounds 4 (Value.bool true)) hCe (get?_update_of_ne (Obj.mapFields λx=>x.setIfInBounds 3 Value.none) hCe hC)
 have he2:((h.update e (Obj.mapFields λx=>x.setIfInBounds 3 Value.none)).update e (Obj.mapFields λx=>x.setIfInBounds 4 (Value.bool true))).get? e=some {cls:=.ref C,data:=.fields #[.ref t,.none,.none,.none,.bool true,.none]}:=
  get?_update_self _ (get?_update_self _ he rfl) rfl
 repeat (first |with_reducible refine wpAny_loadPart_at he ?_ |with_reducible refine wpAny_loadPart_at hC ?_ |with_reducible refine wpAny_loadPart_at hC2 ?_ | (with_reducible refine wpAny_isSubtype_exc hC ?_;rw[hcB]) |wp_step)
 unfold raiseNew
 refine wpAny_bind (wpAny_handled ?_)
 rw[hh]
 dsimp only
 rw[if_pos (by simpa using hae)]
 refine wpAny_bind (wpAny_holding (unchain_none c1 ?_))
 unfold updateField
 refine wpAny_bind (wpAny_bind (wpAny_load he2 ?_))
 dsimp only
 rw[if_pos (by simp)]
 refine wpAny_update he2 (wpAny_throw (hE _ (λb hb=>?_) (get?_update_self _ he2 rfl)))
 rw[get?_update_other _ _ (Ne.symm hb),get?_update_other _ _ (Ne.symm hb),get?_update_other _ _ (Ne.symm hb)]
theorem exec_raise_none {B initId:String}{bmB:List Value}{a:Addr}{s:Shared}(F:ExcBaseFacts B newId initId bmB){mN:Str->Option Value}{x:Str}{np cpos npos pos:Pos}{j:Nat}{args:List Expr}{Q:Flow->Shared->Prop}
  (hbase:bm.contains (.type "BaseException")=true) (hh:A.handled=some (.ref a)) (hplain:(backTo cpos (starEach args env)).any (·.1)=false) (hni:mN "__init__"=none)
  (h:wpAny (model prog w) A (eval (.Name x np) env) (λf s₁=>f = .ref C/\wpAny (model prog w) A (evalArgs (.ref C) true (backTo cpos (starEach args env)) [])
   (λb s₂=>b.kw=[]/\b.pos.length<=sizeLine/\s₂.heap.get? C=some (excClassObj nm q C N bs bm hdct sn sub ab col dd k0 k1 k2 k3 k5 newId)/\s₂.heap.Ns N mN/\OwnTail s₂.heap bmB bm/\Ctx0 a s₂.heap/\
    ∀h' e t,(∀b o,s₂.heap.get? b=some o->h'.get? b=some o)->s₂.heap.get? e=none->h'.get? e=some {cls:=.ref C,data:=.fields #[.ref t,.none,.ref a,.none,.bool true,.none]}->E (.ref e) {s₂ with heap:=h'}) E s₁) E s):
  wpAny (model prog w) A (exec (.Raise (some (.Call (.Name x np) args [] cpos)) (some (.Constant .none j npos)) pos) env) Q E s:=by
 rw[arm_exec_Raise]
 simp only[evalOpt,Option.map]
 refine wpAny_bind (wpAny_standAt ?_)
 unfold raiseStmt
 refine wpAny_bind (wpAny_bind (wpAny_mono (wpAny_Call_ofName (wpAny_mono h (λf s₁ h₁=>?_) λ_ _ x=>x)) (λv s₃ h₃=>wpAny_bind (wpAny_standAt (wpAny_pure h₃))) λ_ _ x=>x))
 obtain⟨rfl,h₁⟩:=h₁
 unfold callWith
 refine wpAny_bind (wpAny_holding (wpAny_mono h₁ (λb s₂ h₂=>wpAny_bind (wpAny_standAt ?_)) λ_ _ x=>x))
 obtain⟨apos,akw⟩:=b
 obtain⟨hkw,hlen,hC,hn,T,c0,h₂⟩:=h₂
 obtain rfl:akw=[]:=hkw
 obtain⟨hp,g,d,tk,os⟩:=s₂
 simp only[hplain]
 refine wpAny_bind (wpAny_keeperOf_exc hC ?_)
 refine wpAny_bind (wpAny_call_exc_subT (hrest:=hlen) F T hC hn hni λh' e hm=>wpAny_bind (wpAny_holding (wpAny_point (wpAny_pure ?_))))
 obtain⟨t,ht,_,_⟩:=hm.there
 have c1:Ctx0 a h':=let⟨oe,vs,z1,z2⟩:=c0;⟨oe,vs,hm.keeps _ _ z1,z2⟩
 have hae:a≠e:=λz=>by
  obtain⟨oe,vs,z1,z2⟩:=c0
  have:=hm.new
  rw[<- z]at this
  rw[show hp.get? a=some oe from z1]at this
  cases this
 refine wpAny_bind (wpAny_holding (wpAny_bind (Constant_none (wpAny_bind (wpAny_standAt (wpAny_pure (wpAny_bind (wpAny_pure ?_))))))))
 exact made_none hbase hh c1 hae (hm.keeps _ _ hC) ht λh'' z1 z2=>h₂ h'' e t (λb o q=>by
  rw[z1 b (λz=>by have:=hm.new;rw[z]at q;rw[show hp.get? e=none from this]at q;cases q)]
  exact hm.keeps _ _ q) hm.new z2
end
def CXE0 (P:Program)(w:World):CXT:=λouter H s E e s'=>CXE P w outer H s E e s'/\∃a,e = .ref a/\Ctx0 a s'.heap
structure CalX0 (P:Program) (w:World) (K:Frag) (mg:Str->Option Value) (base:Heap) (x:Str) (k:Nat) (ps:List Str) (sp:Sp):Prop where
 ex:∃f fd,FnOk P w K mg base (CXE0 P w) k f fd ps sp/\mg x=some (.ref f)/\keepIn K (.ref f)=true/\Binds K fd ps []
section
variable {P:Program}{w:World}{K:Frag}{mg:Str->Option Value}{base:Heap}{N:List Str}{qual:Str}{scope:Scope}{f:Addr}{cd:Value}{A:Around}{outer:List Env}{s:Shared}{H:Hp}{E:XK}
theorem raise_leaves0 {pins:List (Addr×Obj)}{Y:St}{H1:Hp}{s1:Shared}{C a:Addr}{args:List Value}{h2:Heap}(I:Inv (cxOf (CXE0 P w) P w K mg base N qual scope f cd A outer s H E) pins Y H1 s1)(hx:Heap.MadeExcOf s1.heap h2 a (.ref C) args)
  (hE:E (.ref C) none H1):(cxOf (CXE0 P w) P w K mg base N qual scope f cd A outer s H E).xe (.ref a) {s1 with heap:=h2}:=by
 have I':Inv (cxOf (CXE P w) P w K mg base N qual scope f cd A outer s H E) pins Y H1 s1:=I.wish (cxOf (CXE P w) P w K mg base N qual scope f cd A outer s H E).xe
 obtain⟨t,ht,_⟩:=hx.there
 exact wpAny_safe safe_leaving (I:=Ctx0 a) ⟨_,_,ht,rfl,rfl,rfl⟩ (wpAny_mono (raise_leaves I' hx hE) (λ_ s'' z i=>⟨z,a,rfl,i⟩) λe' s'' z=>z)
theorem ps_raise0 (hg:Gl (cxOf (CXE0 P w) P w K mg base N qual scope f cd A outer s H E) x)(O:OwnCls x C bmB newId mg base)(FB:ExcBaseFacts B newId initId bmB)
  (hh:(A.deeper (envOfC qual scope s.heap.objs.size f cd)).handled=none) (he:PE (cxOf (CXE0 P w) P w K mg base N qual scope f cd A outer s H E) e₀ tm) (hd:(x==("__debug__":Str))=false:=by decide)
  (hs:starEach [e₀] (envOfC qual scope s.heap.objs.size f cd)=[(false,eval e₀ (envOfC qual scope s.heap.objs.size f cd))]:=by rfl):
  PS (cxOf (CXE0 P w) P w K mg base N qual scope f cd A outer s H E) (.Raise (some (.Call (.Name x np) [e₀] [] cpos)) none pos) (tRaise tm λH'=>E (.ref C) none H'):=by
 intro pins s1 Y H1 D I h
 obtain⟨tl,N',nm,q,bs,hdct,sn,sub,ab,col,dd,k0,k1,k2,k3,k5,mN,hC,hN,hni,T⟩:=O.obj
 refine wpAny_Raise_call_subT (nm:=nm) (q:=q) (N:=N') (bs:=bs) (hdct:=hdct) (sn:=sn) (sub:=sub) (ab:=ab) (col:=col) (dd:=dd) (k0:=k0) (k1:=k1) (k2:=k2) (k3:=k3) (k5:=k5)
  FB (T.hasType FB.hasBase) hh ?_ hni (ld_glob I hg O.bound ⟨rfl,?_⟩ hd)
 .show (backTo cpos (starEach [e₀] (envOfC qual scope s.heap.objs.size f cd))).any (·.1)=false
  rw[hs];rfl
 .have ha:=(pa_cons he pa_nil hs) cpos pins s1 Y H1 (λvs H2=>vs.length<=sizeLine/\E (.ref C) none H2) I h
  change wpAny _ _ (spliced (backTo cpos (starEach [e₀] (envOfC qual scope s.heap.objs.size f cd)))) _ _ s1 at ha
  show wpAny _ _ (evalArgs (.ref C) true (backTo cpos (starEach [e₀] (envOfC qual scope s.heap.objs.size f cd))) []) _ _ s1
  rw[hs]at ha ⊢
  refine Calls.evalArgs_plain (wpAny_mono ha (λus s2 h2=>?_) λ_ _ y=>y)
  obtain⟨vs,H2,I2,r,hl,q2⟩:=h2
  refine⟨rfl,?_,I2.bk _ _ hC,hN.keeps I2.bk,T.keeps I2.bk,λh' e hm=>raise_leaves0 I2 hm q2⟩
  rw[<- r.length];exact hl
theorem CalX0.of {x:Str}{st:Stmt}{fd:FuncData}{ps:List Str}{k n:Nat}{sp:DSpX}(Df:DefAt K mg x st f fd)(S:FnScope N ps (defScope st))
  (hb:∀(kV doc pm:Value) (an:Option Addr) (cdv ct:Value) (us:List Value),us.length=ps.length->bindArgs (fnOf x x (defArgs st) (defBody st) (defScope st) .none kV doc pm an cdv ct) ⟨us,[]⟩=pure (ps.zip us)) (hn:n=ps.length)
  (hbody:∀(cdv:Value) (A:Around) (outer:List Env) (s:Shared) (H:Hp) (E:XK),Room k (A.deeper (envOfC x (defScope st) s.heap.objs.size f cdv))->∀(F:Hp) (Xc:Str->Prop),(∀c C F' H',Xc c->nsIn K mainGlobals c=some (some (.ref C))->Ext F H F' H'->E (.ref C) none H')->
   ∃t T,PSs (cxOf (CXE0 P w) P w K mg base N x (defScope st) f cdv A outer s H E) (defBody st) t/\SimX K F H t T/\∀ds Pr,sp ds Pr Xc->T {nx:=λ_=>Pr (.fz .non),rt:=Pr} (startV N ds)):CalX0 P w K mg base x (k+1) ps (spX K n sp):=by
 obtain⟨oc,od,kV,doc,pm,an,cdv,ct,osl,rfl,lk,hcd⟩:=Df.fn.ex
 refine⟨f,_,?_,Df.here,Df.fn.kp,Df.fn.binds hb⟩
 refine fn_of lk hcd S (λvs H Q E h=>by rw[<- hn];exact h.1) λA outer s H vs Q E hr h=>?_
 obtain⟨_,F,ds,Pr,Xc,hs,hr',hsp,hq,hE⟩:=h
 obtain⟨t,T,h1,h2,h3⟩:=hbody cdv A outer s H E hr F Xc hE
 refine⟨t,h1,h2 F H (start N vs) (startV N ds) {nx:=λ_=>Pr (.fz .non),rt:=Pr} _ ⟨_,startV_er hs hr'⟩ ⟨λF' H' Y G e p=>?_,λ_ _ _ _ _ z=>z.elim,λ_ _ _ _ _ z=>z.elim,λF' H' r v x n p=>hq r v F' H' p x n⟩ (h3 ds Pr hsp)⟩
 exact hq _ _ F' H' p e.ext (.fz rfl)
theorem none_leaves {pins:List (Addr×Obj)}{Y:St}{H1:Hp}{s1:Shared}{C a e t:Addr}{h2:Heap}(I:Inv (cxOf (CXE P w) P w K mg base N qual scope f cd A outer s H E) pins Y H1 s1)(keeps:∀b o,s1.heap.get? b=some o->h2.get? b=some o)(new:s1.heap.get? e=none)
  (he:h2.get? e=some {cls:=.ref C,data:=.fields #[.ref t,.none,.ref a,.none,.bool true,.none]}) (hE:E (.ref C) none H1):(cxOf (CXE P w) P w K mg base N qual scope f cd A outer s H E).xe (.ref e) {s1 with heap:=h2}:=by
 have hst:=PySem.W.funFrames_hide I.stack λe he b hb=>mem_filterMap.mpr ⟨e,he,hb⟩
 have kb:∀b o,(hideAll s1.heap (frs (envOfC qual scope s.heap.objs.size f cd::outer))).get? b=some o->h2.get? b=some o:=λb o q=>keeps b o (of_hideAll _ q)
 have hen:(hideAll s1.heap (frs (envOfC qual scope s.heap.objs.size f cd::outer))).get? e=none:=by
  cases q:(hideAll s1.heap (frs (envOfC qual scope s.heap.objs.size f cd::outer))).get? e with
  |none=>rfl
  |some o=>have:=of_hideAll _ q;rw[new]at this;cases this
 refine wpAny_leaving_firstW (base:=hideAll s1.heap (frs (envOfC qual scope s.heap.objs.size f cd::outer))) (a0:=.ref t) (s:={s1 with heap:=h2}) I.ok.frames (hst.of_keeps λb o hb _=>⟨o,keeps b o hb,rfl⟩) rfl he kb hen rfl rfl rfl λh' hL=>?_
 obtain⟨k1,⟨_,_,k2⟩,k3,k4⟩:=hL
 refine leave_core (s':=s1) (Z:=[]) I hE ⟨k1,hen,k2,k3⟩ (λb o q hb _ _=>hideAll_get _ q hb) (λb o hb q=>?_) (λ_ z=>by cases z) Un.refl I.hok I.bare rfl ?_
 .obtain ⟨_,o',ho',hd⟩:=I.stack.mem hb
  rw[q]at ho';cases ho'
  exact k4 b o (keeps b o q) hd
 .cases q:H1 e with
  |none=>rfl
  |some u=>
   obtain⟨o,ho⟩:=(I.hok e u q).at
   rw[new]at ho;cases ho
def tTryN (K:Frag)(W:Addr)(xi:Nat)(sp:Sp)(t:TA)(EX:Hp->Prop):TS:=λD Y H=>t Y H λvs H1=>sp vs H1 (λv H2=>D.nx (Y.set xi (some v)) H2) λcls _ H2=>∃C,cls = .ref C/\exmOne K (.ref C) (.ref W)=some true/\∀H3,Same H2 H3->EX H3
theorem ps_tryN {W C2:Addr}{g wx y x:Str}{k xi:Nat}{ps:List Str}{sp:Sp}{e:Expr}{es:List Expr}{t:TA}{m:Str}{mj:Nat}{mp:Pos}{p py np xnp cpos xcpos npos epos rpos hpos tpos:Pos}{j:Nat}{bmB:List Value}{newId initId B:String}{X:Cx}(hX:X=cxOf (CXE P w) P w K mg base N qual scope f cd A outer s H E)
  (C:CalX0 P w K mg base g k ps sp) (hr:Room k X.A) (hg:Gl X g) (ha:PA X.nox (e::es) t)
  (hgw:Gl X wx) (hmw:mg wx=some (.ref W)) (hN:N.Nodup) (hy:N[xi]?=some y) (hyl:scope.names.lookup y=some .local)
  (hgx:Gl X x) (O:OwnCls x C2 bmB newId mg base) (FB:ExcBaseFacts B newId initId bmB)
  (hdb:(g==("__debug__":Str))=false:=by decide) (hdw:(wx==("__debug__":Str))=false:=by decide) (hdx:(x==("__debug__":Str))=false:=by decide) (he:starEach (e::es) X.env=(false,eval e X.env)::starEach es X.env:=by rfl) (hpl:(backTo cpos (starEach es X.env)).any (·.1)=false:=by rfl)
  (hsw:swapsWith (.Call (.Name g p) (e::es) [] cpos) (some (.Name y py)) epos.line X.env=pure false:=by rfl) (hs0:starEach [Expr.Constant (.str m) mj mp] X.env=[(false,eval (.Constant (.str m) mj mp) X.env)]:=by rfl):
  PS X (.Try [.Assign [.Name y py] (.Call (.Name g p) (e::es) [] cpos) epos] [.ExceptHandler (some (.Name wx np)) none [.Raise (some (.Call (.Name x xnp) [.Constant (.str m) mj mp] [] xcpos)) (some (.Constant .none j npos)) rpos] hpos] [] [] tpos) (tTryN K W xi sp t λH'=>E (.ref C2) none H'):=by
 subst hX
 intro pins s0 Y H0 D I h
 obtain⟨f',fd,F,hm,hk,hb⟩:=C.ex
 refine wpAny_Try_except ?_
 refine wpAny_execs_cons (wpAny_Assign_Name (wpAny_Call_Name_kw (ld_glob I hg hm ?_ hdb)) hsw)
 refine callWith_K I.ok.mod.kin hk (wpAny_mono (ha cpos pins s0 Y H0 _ (I.wish _) h) (λus s1 ⟨vs,H1,I1',r,q⟩=>⟨I1'.unwish.kIn,?_⟩) λe s' z=>z.elim) he hpl
 have I1:=I1'.unwish
 have hl:(us++[]).length=ps.length:=by rw[append_nil,<- r.length];exact F.len _ _ _ _ q
 have hbt:=hb s1 us I1.kIn hl
 rw[append_nil]at hbt
 refine wpAny_call (codeAny_mono (F.run _ _ s1 H1 ⟨us,[]⟩ us vs _ _ hr I1.env0 hbt r q) λres s' hq=>?_)
 cases res with
 |ok fl=>
  cases fl with
  |ret u=>
   obtain⟨v,H',I',r',z⟩:=I1.after hq
   exact store_ok I' hN hy (.inl hyl) r' (λs2 I2=>wpAny_execs_nil (wpAny_execs_nil ⟨_,H',I2,z⟩)) (.inr hyl)
  |_=>exact False.elim hq
 |error ev=>
  obtain⟨⟨a,C1,a0,B',H',rfl,⟨C3,hCe,hex,hEX⟩,fl,agree,un,hok,bare,hos,hna⟩,a',ea,c0⟩:=hq
  cases hCe
  cases ea
  have hfr:=I.ok.frames
  have fl0:=fl
  refine wpAny_safe safe_noteFrame c0 (wpAny_looks_onW hfr rfl fl λh4 held4 sm4 c4=>?_) (E0:=λ_ _=>True)
  refine wpAny_safe safe_setFlight c4 (wpAny_landsW held4 λh5 fl5 sm5 c5=>?_) (E0:=λ_ _=>True)
  have sm45:=sm4.trans sm5
  have I5:=(I1.caught fl0 agree un hok bare hos hna fl5 sm45).hdl a
  refine wpAny_handleBy_cons (codeAny_handlers_test (ld_glob (X:=(cxOf (CXE P w) P w K mg base N qual scope f cd A outer s H E).hdl a) I5 hgw hmw ?_ hdw)) (by intro q;cases q)
  have LT:Looks (model P w) h5 (typeOf (.ref a)) (.ref C1):=by
   obtain⟨ob,hob,hc⟩:=fl5.there
   rw[<- hc]
   exact (Looks.ld hob).andThen .now
  refine (exm_one (M:=model P w) I5.kIn LT hex).here ?_
  refine codeAny_handlers_suite ?_
  refine wpAny_safe safe_setFlight c5 (lands_againW fl5 λh6 fl6 sm6 c6=>?_) (E0:=λ_ _=>True)
  have I6:=I1.caught fl0 agree un hok bare hos hna fl6 (sm45.trans sm6)
  have I6h:=I6.hdl a
  refine wpAny_passesOwnAt PassesOwnAt.leaving ?_
  refine wpAny_execs_cons ?_
  obtain⟨tl,N',nm,qn,bs,hdct,sn,sub,ab,col,dd,k0,k1,k2,k3,k5,mN,hC,hN',hni,T⟩:=O.obj
  refine exec_raise_none (nm:=nm) (q:=qn) (N:=N') (bs:=bs) (hdct:=hdct) (sn:=sn) (sub:=sub) (ab:=ab) (col:=col) (dd:=dd) (k0:=k0) (k1:=k1) (k2:=k2) (k3:=k3) (k5:=k5) (a:=a)
   FB (T.hasType FB.hasBase) rfl ?_ hni (ld_glob (X:=(cxOf (CXE P w) P w K mg base N qual scope f cd A outer s H E).hdl a) I6h hgx O.bound ⟨rfl,?_⟩ hdx)
  .show (backTo xcpos (starEach [Expr.Constant (.str m) mj mp] (envOfC qual scope s.heap.objs.size f cd))).any (·.1)=false
   rw[show starEach [Expr.Constant (.str m) mj mp] (envOfC qual scope s.heap.objs.size f cd)=_ from hs0];rfl
  .show wpAny _ _ (evalArgs (.ref C2) true (backTo xcpos (starEach [Expr.Constant (.str m) mj mp] (envOfC qual scope s.heap.objs.size f cd))) []) _ _ _
   rw[show starEach [Expr.Constant (.str m) mj mp] (envOfC qual scope s.heap.objs.size f cd)=_ from hs0]
   refine Calls.evalArgs_plain ?_
   refine Calls.spliced_cons (Calls.Constant_str (k:=mj) (pos:=mp) (Calls.spliced_nil ?_))
   refine⟨rfl,sz_le (show 1<=1000000 by decide),I6.bk _ _ hC,hN'.keeps I6.bk,T.keeps I6.bk,c6,λh' e' t' z1 z2 z3=>?_⟩
   exact none_leaves (s1:={s' with heap:=h6,toks:=_}) (I6.tok _) z1 z2 z3 (hEX _ (Same.new hna))
end
open PySem PySem.Spec PyProof.Rows
structure Mk0 (K:Frag) (mg:Str->Option Value) (c:Str):Prop where
 ex:∃C,nsIn K mainGlobals c=some (some (.ref C))/\makesIn K C=true/\PySem.W.findIn K (.ref C) "__init__"=some (some (.builtin "object.__init__"))/\keepIn K (.ref C)=true/\mg c=some (.ref C)
def tMake0 (K:Frag)(c:Str):TE:=λY H Q=>∃C,nsIn K mainGlobals c=some (some (.ref C))/\∀x dx,H x=none->H dx=none->dx≠x->Q (.ref x) (upd (upd H dx (.own x)) x (.ins C dx []))
def dMake0 (c:Str):DO:=λ_ P=>P (.ob none c [] [])
section
variable {X:Cx}{c:Str}{p pos:Pos}{K:Frag}
theorem pe_mak0 (M:Mk0 X.K X.mg c)(hg:Gl X c)(hdb:(c==("__debug__":Str))=false:=by decide):PE X (.Call (.Name c p) [] [] pos) (tMake0 X.K c):=by
 intro pins s Y H Q I ⟨C',hC',h⟩
 obtain⟨C,hC,mk,ini,kp,hm⟩:=M.ex
 obtain rfl:C=C':=by rw[hC]at hC';cases hC';rfl
 refine wpAny_Call_Name_kw (ld_glob I hg hm ?_ hdb)
 refine PySem.W.callWith_K0 I.kIn kp ?_
 have hq:=h (s.heap.objs.size+1) s.heap.objs.size (I.hok.fresh (le_succ _)) (I.hok.fresh (Nat.le_refl _)) (ne_of_lt (Nat.lt_succ_self _))
 have I2:=Inv.made (C:=C) I
 have σ:=makes_of (M:=model X.prog X.w) I.kIn mk
 refine wpAny_call (make_map0 I.kIn mk ini (λself=>PySem.W.Looks.of_pure (PySem.W.oi_bind self)) ?_)
 have t1:PySem.W.Looks (model X.prog X.w) ((s.heap.push emptyDict).push (instObj C s.heap.objs.size)) (typeOf (.ref (s.heap.objs.size+1))) (.ref C):=(PySem.W.Looks.ld (I2.hok _ _ upd_same).2.2.2.1).andThen .now
 have t2:PySem.W.Looks (model X.prog X.w) ((s.heap.push emptyDict).push (instObj C s.heap.objs.size)) (isInstance (.ref (s.heap.objs.size+1)) (.type "object")) true:=t1.andThen (σ.top.keeps λb o e=>get?_push_of_some _ (get?_push_of_some _ e))
 refine codeAny_call_builtin PySem.W.oi_plain PySem.W.entry_oi (@PySem.W.check_slot (model X.prog X.w) _ _ _ "object.__init__" "object" "__init__" (.ref (s.heap.objs.size+1)) [] [] _ PySem.W.oi_kind PySem.W.oi_split t2 (PySem.W.oi_args (.ref (s.heap.objs.size+1))) ?_)
 rw[PySem.W.oi_run]
 exact wpAny_pure (And.intro rfl ⟨V.ref (s.heap.objs.size+1),_,I2,rfl,hq⟩)
theorem sO_mak0 (CV:ClsV K c []):SimO K (tMake0 K c) (dMake0 c):=λF0 H0 F H Y G P Q e w q=>by
 obtain⟨C,hC,_⟩:=CV.ex
 refine⟨C,hC,λx dx hx hd hne=>?_⟩
 have s0:Same H (upd (upd H dx (.own x)) x (.ins C dx [])):=λb o z=>upd_off (λy=>by rw[y,hx]at z;cases z) (upd_off (λy=>by rw[y,hd]at z;cases z) z)
 obtain⟨A,e⟩:=e
 have fh:=e.ext.fh
 refine q _ _ F _ w ⟨Same.refl _,s0,fh.trans s0,λ_ _ z _ _=>z⟩ ⟨x::dx::[],⟨x,C,dx,[],[],rfl,rfl,hC,(λ_ z=>by cases z),upd_same,upd_off hne upd_same,zero_le _,⟨rfl,rfl⟩⟩,?_,λb hb=>?_⟩
 .simp only[nodup_cons,mem_cons,not_mem_nil,or_false,not_false_eq_true,nodup_nil,and_true]
  exact λz=>hne z.symm
 .rcases mem_cons.mp hb with z |z
  .rw [z];exact⟨hx,fh.free hx⟩
  .rw [mem_singleton.mp z];exact⟨hd,fh.free hd⟩
end
structure InsK (K:Frag) (D:Addr):Prop where
 pg:plainGet K D "__class__"=true
 hd:PySem.W.hasDictIn K D=true
 attr:PySem.W.findIn K (.ref D) "__class__"=some (some (.builtin "object.__class__"))
 get:PySem.W.specialIn K (.builtin "object.__class__") "__get__"=some (some (.builtin "getset_descriptor.__get__"))
 takes:PySem.W.takesIn K (.builtin "object.__class__")=some true
 mro:PySem.W.mroIn K D (.type "object")=some true
structure InsV (K:Frag) (c:Str) (xs:List (Str×Bool)):Prop where
 ex:∃C,nsIn K mainGlobals c=some (some (.ref C))/\InsK K C/\∀y∈xs,∃D,nsIn K mainGlobals y.1=some (some (.ref D))/\kitOne K (.ref C) (.ref D)=some y.2
def rIsO (K:Frag):List V->Hp->VK->Prop:=λvs H Q=>∃a C dx fs D b,vs=[.ref a,.ref D]/\H a=some (.ins C dx fs)/\InsK K C/\kitOne K (.ref C) (.ref D)=some b/\Q (.bl b) H
theorem call_isO {X:Cx}:CallR X (.builtin "isinstance") (rIsO X.K):=by
 intro pins s Y H vs us Q I r h
 obtain⟨a,C,dx,fs,D,b,rfl,ha,Z,e,q⟩:=h
 obtain⟨u,u',rfl,r1,r2⟩:=vals2 r
 cases r1
 cases r2
 have fin:∀tk,EP X pins Y Q (.bool b) {s with toks:=tk}:=λtk=>⟨.bl b,H,I.tok tk,rfl,q⟩
 obtain⟨h1,_,_,h2,_⟩:=I.hok a _ ha
 obtain⟨od,ho⟩:=I.hok dx _ h1
 exact kia_one (PySem.W.kitx_own (od:=od) Z.pg Z.hd Z.attr Z.get Z.takes Z.mro) I.kIn ⟨h2,rfl,rfl,ho⟩ e (λz=>nomatch z) fin
def isiM (t:List (Str×List (Str×Bool))):List D->(D->Prop)->Prop:=λds P=>match ds with
 | [.obj c _ _,.fn x]=>∃y∈t,c=y.1/\∃b,(x,b)∈y.2/\P (.bl b)
 |_=>False
theorem cS_isO {K:Frag}{t:List (Str×List (Str×Bool))}(EV:∀y∈t,InsV K y.1 y.2):CbS K (rIsO K) (isiM t):=λF H ds vs P Q s rs w q=>by
 unfold isiM at w
 split at w
 .obtain ⟨y,hy,rfl,b,hb,w⟩:=w
  obtain⟨C,hC,Z,h1⟩:=(EV y hy).ex
  obtain⟨v,r,rfl,⟨a,C',dx,us,rfl,hC',ha,_,_⟩,r2⟩:=rs
  obtain⟨v2,r',rfl,⟨f,rfl,hf⟩,r3⟩:=r2
  cases r3
  rw[hC]at hC'
  cases hC'
  obtain⟨D',hD,hk⟩:=h1 _ hb
  obtain rfl:f=D':=by rw[hf]at hD;cases hD;rfl
  exact⟨a,C,dx,_,f,b,rfl,ha,Z,hk,q _ _ F H w (Ext.refl s) rfl⟩
 .exact w.elim
def DicI (w:World)(K:Frag)(mg:Str->Option Value)(x:Str)(kds:List (Str×Int)):Prop:=
 ∃a es n,mg x=some (.ref a)/\K.lookup a=some ⟨.type "dict",none,.dict es n,#[]⟩/\KeysLit w.params es.toList/\(a==sysModules)=false/\
  ∀k,match kds.lookup k with
   |some i=>∃t,findBy Value.isStrOf es k=some (.int i t)
   |none=>findBy Value.isStrOf es k=none
inductive DEi:List (Str×Int)->List DictEntry->Prop
 |nil:DEi [] []
 |cons {k:Str} {i:Int} {hs:Int} {t u:Tok} {kds:List (Str×Int)} {es:List DictEntry}:DEi kds es->DEi ((k,i)::kds) (⟨hs,.str k t,.int i u⟩::es)
theorem DEi.find {kds:List (Str×Int)}{es:List DictEntry}(r:DEi kds es)(k:Str):match kds.lookup k with
   |some i=>∃t,(es.find? λe=>Value.isStrOf k e.key).map (·.val)=some (.int i t)
   |none=>(es.find? λe=>Value.isStrOf k e.key).map (·.val)=none:=by
 induction r with
 |nil=>rfl
 | @cons k' d hs t u kds es r ih=>
  by_cases z:k'=k
  .subst z
   rw[lookup_cons,beq_self_eq_true]
   refine⟨u,?_⟩
   rw[List.find?_cons_of_pos (by show (k'==k')=true;exact beq_self_eq_true _)]
   rfl
  .have h1:(k==k')=false:=beq_eq_false_iff_ne.mpr (Ne.symm z)
   have h2:(k'==k)=false:=beq_eq_false_iff_ne.mpr z
   rw[lookup_cons,h1,List.find?_cons_of_neg (by show ¬ (k'==k)=true;rw[h2];exact Bool.false_ne_true)]
   exact ih
theorem dicI_of {w:World}{K:Frag}{mg:Str->Option Value}{x:Str}{kds:List (Str×Int)}{a:Addr}{es:List DictEntry}{n:Nat}(e:mg x=some (.ref a))(lk:K.lookup a=some ⟨.type "dict",none,.dict es.toArray n,#[]⟩)
  (kl:KeysLit w.params es) (sm:(a==sysModules)=false) (r:DEi kds es):DicI w K mg x kds:=
 ⟨a,es.toArray,n,e,lk,kl,sm,λk=>by
  have h:=r.find k
  unfold findBy
  rw[List.find?_toArray]
  exact h⟩
def optD (kds:List (Str×Int))(k:Str):D:=match kds.lookup k with
 |some i=>.int i
 |none=>.non
def optV (kds:List (Str×Int))(k:Str):V:=match kds.lookup k with
 |some i=>.int i
 |none=>.non
def tDgetI (kds:List (Str×Int))(t:TA):TE:=λY H Q=>t Y H λvs H1=>∃k,vs=[.str k]/\Q (optV kds k) H1
def dDgetI (kds:List (Str×Int))(As:DA):DE:=λG P=>As G λds=>match ds with
 | [.str k]=>P (optD kds k)
 |_=>False
section
variable {X:Cx}{K:Frag}{x:Str}{kds:List (Str×Int)}{i:Expr}{t:TA}{ty:TE}{pos apos cpos:Pos}{E:DE}
theorem pe_dgetI (hg:Gl X x)(hm:DicI X.w X.K X.mg x kds)(ha:PA X [i] t)(hd:(x==("__debug__":Str))=false:=by decide)
  (hbase:attributeBase (.Name x pos) "get" X.env (eval (.Name x pos) X.env)=eval (.Name x pos) X.env:=by rfl)
  (hfew:((backTo cpos (starEach [i] X.env)).all (λx => !x.1) && (backToKw cpos (keywordEach [] X.env)).all (λx=>x.1.isSome)
   && decide (([i]:List Expr).length+([]:List Keyword).length+(if ([]:List Keyword).isEmpty then 0 else 1)<30))=true:=by rfl)
  (hline:(apos.endLine==cpos.line)=true:=by rfl) (hs:starEach [i] X.env=(false,eval i X.env)::starEach [] X.env:=by rfl) (hplain:(backTo cpos (starEach [] X.env)).any (·.1)=false:=by rfl):
  PE X (.Call (.Attribute (.Name x pos) "get" apos) [i] [] cpos) (tDgetI kds t):=by
 intro pins s Y H Q I h
 obtain⟨a,es,n,e,lk,kl,sm,fnd⟩:=hm
 refine wpAny_Call_method_late hbase hfew hline rfl (thn (pe_glob (v:=.ref a) hg e rfl hd pins s Y H (λx H2=>x = .ref a/\tDgetI kds t Y H2 Q) I ⟨rfl,h⟩) λu s1 ⟨y,H1,I1,rx,ex,q1⟩=>?_)
 subst ex
 obtain rfl:u=Value.ref a:=rx
 have hm1:=mapOf_K (prog:=X.prog) I1.kIn lk kl
 refine⟨"dict","dict.get",PySem.F.plainAttrs_dict,PySem.F.slot_dict_get,PySem.F.type_dict_get,hm1.typeIs,hm1.noDict,?_⟩
 have hA:=ha cpos pins s1 Y H1 _ I1 q1
 rw[hs]at hA ⊢
 refine Calls.callWith_builtin (by show (false || (backTo cpos (starEach [] X.env)).any (·.1))=false;rw[hplain]<;>rfl) (Calls.evalArgs_plain ?_)
 refine thn hA λus s2 ⟨vs,H2,I2,r2,k,ek,q2⟩=>?_
 subst ek
 obtain⟨u,rfl,ru⟩:=vals1 r2
 obtain⟨t,rfl⟩:=ru
 have hm:=mapOf_K (prog:=X.prog) I2.kIn lk kl
 refine call_meetsIn PySem.F.slot_dict_get hm.typeIs PySem.F.entry_dict_get (PySem.F.args_dict_get_2 _ _) (meets_dict_get _ a (strKind_is X.prog X.w k t) sm) ⟨_,hm,?_⟩
 have f:=fnd k
 refine⟨optV kds k,H2,I2.tok _,?_,q2⟩
 unfold optV
 split at f
 .rename_i j hl
  obtain⟨t',f1⟩:=f
  rw[f1]
  exact⟨t',rfl⟩
 .rename_i hl
  rw[f]
  rfl
theorem sF_dgetI {As:DA}(h:SimAB K t As): SimF K (tDgetI kds t) (dDgetI kds As):=λF0 H0 F H Y G P Q e w q=>h F0 H0 F H Y G _ _ e w λds vs F' H' p x r=>by
 split at p
 .obtain ⟨v,r',rfl,h1,h2⟩:=r
  cases h2
  obtain rfl:v = .str _:=h1
  refine⟨_,rfl,q _ _ F' H' p x ?_⟩
  unfold optD optV
  split<;>rfl
 .exact p.elim
end
def dPick (Eo:DO)(Eb:DE):DO:=λG P=>Eo G λo=>match o with
 | .nl ts=>Eb G λy=>match y with
  | .int i=>∃t,atI ts i=some t/\P t
  |_=>False
 |_=>False
theorem sO_pick {K:Frag}{ta tb:TE}{Eo:DO}{Eb:DE}(ha:SimO K ta Eo)(hb:SimB K tb Eb):SimO K (tOp (rIxL K) ta tb) (dPick Eo Eb):=λF0 H0 F H Y G P Q e w q=>
 ha F0 H0 F H Y G _ _ e w λo v F1 H1 w1 x1 n1=>by
  split at w1
  .refine hb F0 H0 F1 H1 Y G _ _ (e.on x1) w1 λy u F2 H2 w2 x2 r2=>?_
   split at w2
   .rename_i ts y i
    obtain⟨t,hd,p⟩:=w2
    obtain⟨A,⟨a,vs,B,rfl,rfl,hl,hB⟩,nd,fr⟩:=n1.on x2
    unfold atI at hd
    cases hj:ixN ts.length i with
    |none=>rw[hj]at hd;cases hd
    |some j=>
     rw[hj]at hd
     obtain⟨v0,A1,B0,A2,f1,f2,f3,_⟩:=hB.focus hd
     have hle:=hB.length
     subst f2
     refine⟨a,vs,i,v0,rfl,r2,SqL.of hl,?_,q t v0 F2 H2 p (x1.trans x2) ⟨B0,f3,?_,λb hb=>fr b (by simp[hb])⟩⟩
     .unfold atI
      rw[<- hle,hj]
      exact f1
     .exact (nodup_append.mp (nodup_append.mp (nodup_cons.mp nd).2).2.1).1
   .exact w2.elim
  .exact w1.elim
def sTryN (xi n:Nat)(sp:DSpX)(cs:List Str)(X:Prop)(As:DA):DS:=λDe G=>As G λds=>ds.length=n/\sp ds (λr=>De.nx (G.set xi (some (.own r)))) λc=>c∈cs/\X
theorem sP_tryN {K:Frag}{F0 H0:Hp}{W C:Addr}{c:Str}{xi n:Nat}{sp:DSpX}{cs:List Str}{E:XK}{Xc:Str->Prop}{a:TA}{As:DA}(hC:nsIn K mainGlobals c=some (some (.ref C)))(hx:∀c C F' H',Xc c->nsIn K mainGlobals c=some (some (.ref C))->Ext F0 H0 F' H'->E (.ref C) none H')
  (hm:∀c∈cs,∀C,nsIn K mainGlobals c=some (some (.ref C))->exmOne K (.ref C) (.ref W)=some true) (ha:SimAF K a As):
  SimX K F0 H0 (tTryN K W xi (spX K n sp) a λH'=>E (.ref C) none H') (sTryN xi n sp cs (Xc c) As):=λF H Y G De En e l w=>
 ha F0 H0 F H Y G _ _ e w λds vs F1 H1 w1 x1 r1=>⟨by rw[<- r1.length];exact w1.1,F1,ds,_,_,x1.fh,r1,w1.2,λr v F' H' p x' n'=>l.nx F' H' _ _ ((e.on x1).put x' xi n') p,
  λc' C' F' H' p hC' x'=>⟨C',rfl,hm c' p.1 C' hC',λH3 s3=>hx c C F' H3 p.2 hC (EnvR.ext (((e.on x1).on x').on ⟨Same.refl _,s3,x'.fh.trans s3,λ_ _ z _ _=>z⟩))⟩⟩
theorem sP_cal2 {K:Frag}{F0 H0:Hp}{ta tc:TE}{Ea:DE}{Ec:DO}{sp:DSp}(ha:SimF K ta Ea)(hc:SimOx K F0 H0 tc Ec):SimOx K F0 H0 (tCall (spV K 2 sp) [] E0 (tCons ta (tCons tc tNil))) (dCall 2 sp (dCons Ea (dCons (dVal Ec) dNil))):=λF H Y G P Q e w q=>
 ha F0 H0 F H Y G _ _ e w λx v F1 H1 w1 x1 r1=>hc F1 H1 Y G _ _ (e.on x1) w1 λy u F2 H2 w2 x2 n2=>by
  obtain⟨F3,x3,_,r3⟩:=n2.frz x2
  exact⟨rfl,F3,[x,y.val],P,x3.fh,⟨v,[u],rfl,r1.mono x3.ff,⟨u,[],rfl,r3,rfl⟩⟩,w2.2,λr v' F' H' p x' r'=>q r v' F' H' p ((x1.trans x3).trans x') (r'.old (x1.hh.trans x3.hh))⟩
section
variable {K:Frag}{h:Heap}{mg:Str->Option Value}{c:Str}{C:Addr}
theorem dmk0 (X:K.In h)(δ:h.Ns mainGlobals mg)(aC:nsIn K mainGlobals c=some (some (.ref C)):=by k_is)(mk:makesIn K C=true:=by k_is)(i:PySem.W.findIn K (.ref C) "__init__"=some (some (.builtin "object.__init__")):=by k_is)(kc:keepIn K (.ref C)=true:=by k_is):Mk0 K mg c:=⟨_,aC,mk,i,kc,mg_of X δ aC⟩
theorem dovM {t:List (Str×List (Str×Bool))}(X:K.In h)(p:∀y∈t,InsV K y.1 y.2):∀y∈t,InsV K y.1 y.2:=p
theorem dins {xs:List (Str×Bool)}(X:K.In h)(Z:InsK K C)(hx:∀y∈xs,∃D,nsIn K mainGlobals y.1=some (some (.ref D))/\kitOne K (.ref C) (.ref D)=some y.2)(aC:nsIn K mainGlobals c=some (some (.ref C)):=by k_is):InsV K c xs:=⟨_,aC,Z,hx⟩
end
end L2
namespace Lw
open PySem L2 PyProof.Rows
def top (i:Nat):Stmt:=PySem.Challenge.pw_liftwave_k49_rows_read.main.body.getD i (.Pass ⟨0,0,0,0⟩)
abbrev vD (d:D):Option Sl:=some (.own (.fz d))
abbrev vI (i:Int):Option Sl:=some (.own (.fz (.int i)))
abbrev vL (ts:List OV):Option Sl:=some (.own (.nl ts))
set_option hygiene false
local macro_rules | `(tactic|walk_at "b")=>`(tactic|first |exact (λ_ _ _ _ _ _ us hl=>match us,hl with | [_],_=>rfl) |exact (λ_ _ _ _ _ _ us hl=>match us,hl with | [_,_],_=>rfl) |exact (λ_ _ _ _ _ _ us hl=>match us,hl with | [_,_,_],_=>rfl) |exact (λ_ _ _ _ _ _ us hl=>match us,hl with | [_,_,_,_,_],_=>rfl))
local macro_rules | `(tactic|walk_at "S")=>`(tactic|exact⟨rfl,rfl,rfl,by decide +kernel,rfl,by decide +kernel,by decide +kernel⟩)
local macro_rules | `(tactic|fin2)=>`(tactic|simp only[sTryN,dMake0,dPick,dDgetI,rNeZ,vD,vI,vL,startV,sNext,sSeq,sRet,sRetV,sIf,sSet,sApp,sPut,sFrz,dCatL,sFor,gN,dFz,dVal,dLf,dV,dB,dC,dOp,rI2,rI2C,rEqD,rNeD,dTb,dNot,dAnd,dOr,dIf,dAndV,dChain,dNil,dCons,dNilO,dConsO,dLst,ixL,ixT,ixS,dCB,lenD,lenS,dListB,dNoPt,dPt,dSlL,dCall,dItL,dRng1,dRng2,blkD,kitB,catTD,eqND,neND,D.same,dRep1,sRaise,sTry2,isxD,sIns,dSplit,sPopI,dFstr,dUpper,dCompX,intTD,dStarts,dStrip,sFSet,sFNew,dMake,startM,dJoin,mulSD,addSD,strD,dSlS,OV.val,OV.vals,OV.vals_eq,D.lf,D.lfs,map_cons,List.map_nil,cons_append,List.nil_append,length_cons,List.length_nil,List.replicate,Nat.reduceAdd,Nat.reduceSub,Nat.reduceLeDiff,List.getElem?_cons_zero,getElem?_cons_succ,set_cons_zero,set_cons_succ,Bool.not_true,Bool.not_false,Bool.true_and,Bool.and_true,Bool.false_and,Bool.and_false,true_and,and_true,if_true,if_false,Bool.false_eq_true,length_map,reduceIte,decide_eq_true_eq,Option.some.injEq,Sl.own.injEq,OV.ob.injEq,exists_eq_left',val_fzI,CDiv,Int.reduceLT,Int.reduceLE,Int.reduceNeg,Int.reducePow,Int.reduceToNat,Int.reduceMul,Int.reduceAdd,Int.reduceSub,true_or,or_true,String.reduceBEq,String.reduceEq,decide_true,decide_false,not_true_eq_false,Bool.not_eq_true,Bool.or_self,Bool.or_false,Bool.false_or,Bool.not_not,eq_self,ne_eq,not_true,not_false_eq_true,atI_c0,atI_c1,beq_self_eq_true,Bool.true_or,Bool.or_true])
local macro_rules | `(tactic|gn_on)=>`(tactic| (refine sSeq_k λN hN=>?_;fin2))
local macro_rules | `(tactic|gp_on)=>`(tactic| (refine hN _ ?_;clear hN;clear N))
set_option hygiene true
section
variable (P:Program)(w:World){K:Frag}{mg:Str->Option Value}(base:Heap)
seal L2.PA L2.PE L2.PS L2.PSs L2.PT L2.PW L2.PG L2.PGs L2.PO L2.PI
theorem fm_range {α:Type}:∀l:List α,(List.range l.length).filterMap (λk=>l[k]?)=l
 | []=>rfl
 |a::l=>by
  rw[length_cons,List.range_succ_eq_map,filterMap_cons]
  simp only[List.getElem?_cons_zero]
  rw[List.filterMap_map]
  have e:((λk=>(a::l)[k]?)∘Nat.succ)=λk=>l[k]?:=by funext k;simp
  rw[e,fm_range l]
theorem idx_from {n i:Nat}(h:i<=n):Builtin.Str.strSliceIndices (some (i:Int)) none 1 n=(List.range (n-i)).map λk=>i+k:=by
 unfold Builtin.Str.strSliceIndices sliceRange
 have e0:¬ ((i:Int)<0):=by lia
 simp only[e0,if_false,show (1:Int) > 0 by decide,if_true]
 have e:max 0 (min (i:Int) (n:Int))=(i:Int):=by lia
 rw[e]
 have c:(if (i:Int)<(n:Int) then ((n:Int)-(i:Int)+1-1) / 1 else 0).toNat=n-i:=by
  split
  .rw [Int.ediv_one];(clear h e0;lia)
  .lia
 rw[c]
 refine List.map_congr_left λk _=>?_
 clear h e0;lia
theorem txt_from (x:Str){i:Nat}(h:i<=x.length):Txt.slice x (some (i:Int)) none=⟨(x.cps.toList.drop i).toArray⟩:=by
 have e:((List.range (x.length-i)).map λk=>i+k).filterMap (x.cps[·]?)=x.cps.toList.drop i:=by
  rw[List.filterMap_map]
  have:=fm_range (x.cps.toList.drop i)
  rw[length_drop]at this
  rw[<- this]
  refine congrArg (λg=>List.filterMap g _) (funext λk=>?_)
  simp
 unfold Txt.slice
 rw[idx_from h]
 split
 .rename_i c
  have hi:i=0:=by simp at c;lia
  subst hi
  simp
 .rw [e]
abbrev FIG:Str:=Str.ofString "0123456789"
theorem fig_in {c:Nat}(h:48<=c/\c<=57):FIG.cps.contains c=true:=by
 rw[<- Array.contains_toList]
 rcases (show c=48∨c=49∨c=50∨c=51∨c=52∨c=53∨c=54∨c=55∨c=56∨c=57 by omega) with rfl |rfl |rfl |rfl |rfl |rfl |rfl |rfl |rfl |rfl<;>rfl
inductive Dg:Nat->List Nat->Prop
 |one {m:Nat} (h:m<10):Dg m [48+m]
 |more {m:Nat} {l:List Nat} (h:10<=m) (d:Dg (m / 10) l):Dg m (l++[48+m%10])
theorem Dg.ex:∀m:Nat,∃l,Dg m l:=λm=>by
 induction m using Nat.strongRecOn with
 |_ m ih=>
  by_cases h:m<10
  .exact ⟨_,.one h⟩
  .obtain ⟨l,d⟩:=ih (m / 10) (by omega)
   exact⟨_,.more (by omega) d⟩
theorem Dg.dig {m:Nat}{l:List Nat}(d:Dg m l):PySem.NumText.AllDigits l:=by
 induction d with
 |one h=>intro c hc;rw[mem_singleton.mp hc];omega
 |more h d ih=>
  intro c hc
  rcases mem_append.mp hc with z |z
  .exact ih c z
  .rw [mem_singleton.mp z];omega
theorem Dg.val {m:Nat}{l:List Nat}(d:Dg m l):PySem.NumText.digitsVal l=m:=by
 induction d with
 |one h=>show 0*10+(48+_-48)=_;omega
 |more h d ih=>
  unfold PySem.NumText.digitsVal at ih ⊢
  rw[List.foldl_append]
  show _*10+(48+_%10-48)=_
  omega
theorem Dg.ne {m:Nat}{l:List Nat}(d:Dg m l):0<l.length:=by
 cases d with
 |one h=>exact Nat.one_pos
 |more h d=>rw[length_append];exact Nat.succ_pos _
theorem Dg.len {m:Nat}{l:List Nat}(d:Dg m l):∀k,m<10^(k+1)->l.length<=k+1:=by
 induction d with
 |one h=>intro k _;exact Nat.succ_le_succ (zero_le _)
 | @more m l h d ih=>
  intro k hk
  rw[length_append,length_singleton]
  cases k with
  |zero=>omega
  |succ k=>
   have:=ih k (by rw[Nat.pow_succ]at hk;omega)
   omega
theorem Dg.zero {m:Nat}{l r:List Nat}(d:Dg m l)(e:l=48::r):m=0/\l=[48]:=by
 induction d generalizing r with
 |one h=>
  have:=(List.cons.inj e).1
  exact⟨by omega,by rw[this]⟩
 | @more m l h d ih=>
  cases l with
  |nil=>exact absurd d.ne (lt_irrefl _)
  |cons c cs=>
   have e1:c=48:=(List.cons.inj e).1
   subst e1
   have:=(ih rfl).1
   omega
abbrev tx (l:List Nat):Str:=⟨l.toArray⟩
theorem tx_len (l:List Nat):(tx l).length=l.length:=by show l.toArray.size=_;simp
theorem starts_one {c d:Nat}{l:List Nat}:Txt.startswith (tx (d::l)) (tx [c])=decide (d=c):=by
 show (decide (0+1<=(tx (d::l)).length) && ((tx (d::l)).cps.extract 0 (0+1)==#[c]))=_
 have e:(tx (d::l)).cps.extract 0 (0+1)=#[d]:=by simp
 simp
 rfl
theorem minus_tx:Str.ofString "-"=tx [45]:=by decide +kernel
theorem zero_tx:Str.ofString "0"=tx [48]:=by decide +kernel
theorem slice_one {d:Nat}{l:List Nat}:Txt.slice (tx (d::l)) (some 1) none=tx l:=by
 rw[show (some (1:Int))=some ((1:Nat):Int) from rfl,txt_from _ (by rw[tx_len];simp)]
 simp
theorem tw_all {p:Nat->Bool}:∀(l:List Nat),(∀c∈l,p c=true)->l.takeWhile p=l
 | [],_=>rfl
 |c::l,h=>by rw[List.takeWhile_cons,h c mem_cons_self,if_pos rfl,tw_all l λd hd=>h d (mem_cons_of_mem _ hd)]
theorem strip_all {l:List Nat}{y:Str}(h:∀c∈l,y.cps.contains c=true):Txt.stripChars (tx l) y=tx []:=by
 have lo:PySem.stripLo y.cps.contains true (tx l)=l.length:=by
  simp only[PySem.stripLo,if_true]
  rw[tw_all _ h]
 unfold Txt.stripChars Txt.stripBy
 split
 .rename_i z
  unfold PySem.stripSame at z
  rw[lo]at z
  have hx:l.length=0:=by
   have:=(and_eq_true _ _).mp z
   simpa using this.1
  rw[List.length_eq_zero_iff.mp hx]
 .unfold PySem.stripped
  rw[lo]
  show (⟨l.toArray.extract l.length _⟩:Str)=_
  congr 1
  refine Array.eq_empty_of_size_eq_zero ?_
  rw[Array.size_extract]
  simp
  omega
def figs (x:Str):Str:=if Txt.startswith x (Str.ofString "-")=true then Txt.slice x (some 1) none else x
def badN (x:Str):Bool:=!decide (Txt.stripChars (figs x) (Str.ofString "0123456789")=Str.ofString "") || !(decide ((1:Int)<=((figs x).length:Int)) && decide (((figs x).length:Int)<=4)) || (Txt.startswith (figs x) (Str.ofString "0") && !decide (x=Str.ofString "0"))
theorem figs_minus {l:List Nat}:figs (tx (45::l))=tx l:=by
 unfold figs
 rw[minus_tx,starts_one,if_pos (by decide),slice_one]
theorem figs_plain {d:Nat}{l:List Nat}(h:d≠45):figs (tx (d::l))=tx (d::l):=by
 unfold figs
 rw[minus_tx,starts_one,if_neg (by simp[h])]
theorem chr_dig {m:Nat}(h:m<10):(Nat.digitChar m).toNat=48+m:=by
 rcases (show m=0∨m=1∨m=2∨m=3∨m=4∨m=5∨m=6∨m=7∨m=8∨m=9 by lia) with rfl |rfl |rfl |rfl |rfl |rfl |rfl |rfl |rfl |rfl<;>rfl
theorem dig_dg:∀{m:Nat} {l:List Nat},Dg m l->(Nat.toDigits 10 m).map Char.toNat=l
 |m,_,.one h=>by rw[Nat.toDigits_of_lt_base h,List.map_singleton,chr_dig h]
 |m,_,.more h d=>by
  rw[Nat.toDigits_of_base_le (by decide) h,map_append,dig_dg d,List.map_singleton,chr_dig (Nat.mod_lt _ (by decide))]
theorem str_nat {m:Nat}{l:List Nat}(d:Dg m l):Str.ofString (toString (m:Int))=tx l:=by
 rw[ PySem.Str.ofString_eq_byList]
 show (⟨((String.ofList (Nat.toDigits 10 m)).toList.map Char.toNat).toArray⟩:Str)=_
 rw[String.toList_ofList,dig_dg d]
theorem str_neg {m:Nat}{l:List Nat}(h:0<m)(d:Dg m l):Str.ofString (toString (-(m:Int)))=tx (45::l):=by
 obtain⟨k,rfl⟩:∃k,m=k+1:=⟨m-1,by lia⟩
 rw[ PySem.Str.ofString_eq_byList]
 show (⟨(("-"++String.ofList (Nat.toDigits 10 (k+1))).toList.map Char.toNat).toArray⟩:Str)=_
 rw[String.toList_append,map_append,String.toList_ofList,String.toList_ofList,dig_dg d]
 rfl
def numL (n:Int)(l:List Nat):Prop:=∃r,Dg n.natAbs r/\l=if n<0 then 45::r else r
theorem numL.ex (n:Int):∃l,numL n l:=by
 obtain⟨r,d⟩:=Dg.ex n.natAbs
 exact⟨_,r,d,rfl⟩
theorem numL.str {n:Int}{l:List Nat}(h:numL n l):Str.ofString (toString n)=tx l:=by
 obtain⟨r,d,rfl⟩:=h
 by_cases z:n<0
 .rw [if_pos z,<- str_neg (by omega) d]
  congr 2
  lia
 .rw [if_neg z,<- str_nat d]
  congr 2
  lia
def jn (c:Nat):List (List Nat)->List Nat
 | []=>[]
 | [w]=>w
 |w::v::ws=>w++c::jn c (v::ws)
theorem cut_at {c:Nat}:∀{w p a b:List Nat},c∉w->c∉p->w++c::a=p++c::b->w=p/\a=b
 | [],[],a,b,_,_,h=>⟨rfl,(List.cons.inj h).2⟩
 | [],y::p,a,b,_,hp,h=>absurd (mem_cons.mpr (.inl (List.cons.inj h).1)) hp
 |x::w,[],a,b,hw,_,h=>absurd (mem_cons.mpr (.inl (List.cons.inj h).1.symm)) hw
 |x::w,y::p,a,b,hw,hp,h=>by
  obtain⟨h1,h2⟩:=List.cons.inj h
  obtain⟨h3,h4⟩:=cut_at (λz=>hw (mem_cons_of_mem _ z)) (λz=>hp (mem_cons_of_mem _ z)) h2
  exact⟨by rw[h1,h3],h4⟩
theorem jn_inj {c:Nat}:∀{ws ps:List (List Nat)},ws≠[]->ps≠[]->(∀w∈ws,c∉w)->(∀p∈ps,c∉p)->jn c ws=jn c ps->ws=ps
 | [],_,h,_,_,_,_=>absurd rfl h
 |_,[],_,h,_,_,_=>absurd rfl h
 | [w],[p],_,_,_,_,h=>by rw[show w=p from h]
 | [w],p::q::ps,_,_,hw,_,h=>absurd (show c∈w by rw[show w=p++c::jn c (q::ps) from h];simp) (hw w mem_cons_self)
 |w::v::ws,[p],_,_,_,hp,h=>absurd (show c∈p by rw[show p=w++c::jn c (v::ws) from h.symm];simp) (hp p mem_cons_self)
 |w::v::ws,p::q::ps,_,_,hw,hp,h=>by
  obtain⟨h1,h2⟩:=cut_at (hw w mem_cons_self) (hp p mem_cons_self) (show w++c::jn c (v::ws)=p++c::jn c (q::ps) from h)
  rw[h1,jn_inj (by simp) (by simp) (λx hx=>hw x (mem_cons_of_mem _ hx)) (λx hx=>hp x (mem_cons_of_mem _ hx)) h2]
theorem join_jn (c:Nat):∀ls:List Str,(Str.join ⟨#[c]⟩ ls).cps.toList=jn c (ls.map λx=>x.cps.toList)
 | []=>rfl
 | [x]=>rfl
 |x::y::r=>by
  show (x++⟨#[c]⟩++Str.join ⟨#[c]⟩ (y::r)).cps.toList=x.cps.toList++c::jn c ((y::r).map λx=>x.cps.toList)
  rw[<- join_jn c (y::r)]
  show ((x.cps++#[c])++(Str.join ⟨#[c]⟩ (y::r)).cps).toList=_
  simp
theorem split_words (c:Nat)(ws:List Str)(h0:ws≠[])(h:∀w∈ws,c∉w.cps.toList):Txt.split (Str.join ⟨#[c]⟩ ws) ⟨#[c]⟩=ws:=by
 have e1:=PySem.StrLaws.join_split (Str.join ⟨#[c]⟩ ws) ⟨#[c]⟩
 have e2:=PySem.StrLaws.split_free (Str.join ⟨#[c]⟩ ws) c
 have hp:Txt.split (Str.join ⟨#[c]⟩ ws) ⟨#[c]⟩≠[]:=λz=>by
  have e3:=e1
  rw[z]at e3
  have e4:Txt.split (Str.join ⟨#[c]⟩ ws) ⟨#[c]⟩=[Str.join ⟨#[c]⟩ ws]:=if_pos (by
   rw[Bool.or_eq_true]
   exact .inl (decide_eq_true (by rw[<- e3];exact Nat.zero_lt_one)))
  rw[e4]at z
  cases z
 have e4:=congrArg (λx:Str=>x.cps.toList) e1
 simp only[join_jn]at e4
 have e5:=jn_inj (by simpa using hp) (by simpa using h0) (λw hw=>by obtain⟨x,hx,rfl⟩:=mem_map.mp hw;exact e2 x hx) (λw hw=>by obtain⟨x,hx,rfl⟩:=mem_map.mp hw;exact h x hx) e4
 have inj:∀{as bs:List Str},as.map (λx=>x.cps.toList)=bs.map (λx=>x.cps.toList)->as=bs:=λ{as bs} e=>by
  refine List.map_inj_right (f:=λx:Str=>x.cps.toList) (λa b q=>?_) |>.mp e
  obtain⟨a⟩:=a
  congr 1
  exact Array.toList_inj.mp q
 exact inj e5
theorem word_good {n:Int}{l:List Nat}(hn:n.natAbs<=9999)(d:Dg n.natAbs l):badN (tx (if n<0 then 45::l else l))=false/\PySem.intText? (tx (if n<0 then 45::l else l))=some n/\(tx (if n<0 then 45::l else l)).length<=5:=by
 have hl:=d.len 3 (by lia)
 have h0:=d.ne
 have hdig:=d.dig
 have hval:=d.val
 cases l with
 |nil=>exact absurd h0 (lt_irrefl _)
 |cons c cs=>
  have hc:=hdig c mem_cons_self
  have hz:c=48->n=0/\cs=[]:=λz=>by
   subst z
   have:=d.zero rfl
   exact⟨by lia,(List.cons.inj this.2).2⟩
  have hst:Txt.stripChars (tx (c::cs)) (Str.ofString "0123456789")=Str.ofString "":=by
   exact strip_all λx hx=>fig_in (hdig x hx)
  rw[length_cons]at hl
  by_cases hneg:n<0
  .rw [if_pos hneg]
   refine⟨?_,?_,by rw[tx_len,length_cons,length_cons];lia⟩
   .unfold badN
    rw[figs_minus,hst,tx_len,length_cons,zero_tx,starts_one,decide_eq_false (show ¬ c=48 from λz=>by have:=(hz z).1;lia),decide_eq_true (show (1:Int)<=((cs.length+1:Nat):Int) by lia),decide_eq_true (show ((cs.length+1:Nat):Int)<=4 by lia)]
    simp
   .rw [PySem.intText_neg (cs:=c::cs) rfl hdig (by simp) (by rw[tx_len,length_cons,length_cons];lia)]
    congr 1
    lia
  .rw [if_neg hneg]
   refine⟨?_,?_,by rw[tx_len,length_cons];lia⟩
   .unfold badN
    rw[figs_plain (by lia),hst,tx_len,length_cons,zero_tx,starts_one,decide_eq_true (show (1:Int)<=((cs.length+1:Nat):Int) by lia),decide_eq_true (show ((cs.length+1:Nat):Int)<=4 by lia)]
    by_cases z:c=48
    .rw [(hz z).2]
     simp
    .rw [decide_eq_false z]
     simp
   .rw [PySem.intText_digits hdig (by simp) (by rw[tx_len,length_cons];lia)]
    congr 1
    rw[ hval]
    lia
abbrev numT (n:Int):Str:=Str.ofString (toString n)
theorem blank_tx:Str.ofString " "=tx [32]:=by decide +kernel
theorem join_eq (x:Str)(ys:List Str):Txt.join x ys=Str.join x ys:=PySem.StrLaws.glued_eq_join x ys
theorem numT_len {n:Int}(h:n.natAbs<=9999):(numT n).length<=5:=by
 obtain⟨l,hl⟩:=numL.ex n
 rw[show numT n=tx l from hl.str,tx_len]
 obtain⟨r,d,rfl⟩:=hl
 have:=d.len 3 (by lia)
 split
 .rw [length_cons]
  lia
 .lia
theorem numT_free {n:Int}{c:Nat}(h1:c≠45)(h2:c<48∨57<c):c∉(numT n).cps.toList:=by
 obtain⟨l,hl⟩:=numL.ex n
 rw[show numT n=tx l from hl.str]
 obtain⟨r,d,rfl⟩:=hl
 intro hc
 have hd:c∈r->False:=λz=>by have:=d.dig c z;lia
 split at hc
 .rcases mem_cons.mp (show c∈45::r from hc) with z |z
  .exact h1 z
  .exact hd z
 .exact hd hc
def allR {α:Type}(f:Str->Option (Option α)):List Str->Option (Option (List α))
 | []=>some (some [])
 |w::ws=>match f w with
  |none=>none
  |some none=>some none
  |some (some a)=>(allR f ws).map (Option.map (a::·))
theorem allR_len {α:Type}{f:Str->Option (Option α)}:∀{ws:List Str} {as:List α},allR f ws=some (some as)->as.length=ws.length
 | [],as,h=>by cases h;rfl
 |w :: ws,as,h=>by
  unfold allR at h
  split at h
  .cases h
  .cases h
  .cases hr:allR f ws with
   |none=>rw[hr]at h;cases h
   |some y=>
    cases y with
    |none=>rw[hr]at h;cases h
    |some z=>
     rw[hr]at h
     cases h
     rw[length_cons,length_cons,allR_len hr]
def outX {α:Type}(r:Option α)(P:α->Prop)(X:Str->Prop):Prop:=match r with
 |some a=>P a
 |none=>X "NoRow"
theorem allR_drop {α:Type}{f:Str->Option (Option α)}{g:α->OV}{sp:DSpX}{Xc:Str->Prop}{P:OV->Prop}{ws:List Str}(hl:ws.length<=100000)(hsp:∀w∈ws,∀(Q:OV->Prop) r,f w=some r->outX r (λa=>Q (g a)) Xc->sp [.str w] Q Xc){r:Option (List α)}(hr:allR f ws=some r)(k:outX r (λas=>P (.nl (as.map g))) Xc):
  CmpX (gN 0) (dCons (dV 0) dNil) 1 sp Xc (ws.map D.str) [none] P:=by
 refine⟨λi G ts=>∃(o:Option Sl) (as:List α),G=[o]/\ts=as.map g/\as.length=i/\i<=ws.length/\allR f ws=(allR f (ws.drop i)).map (Option.map (as++·)),⟨none,[],rfl,rfl,rfl,zero_le _,?_⟩,?_,?_⟩
 .rw [List.drop_zero]
  cases allR f ws with
  |none=>rfl
  |some x=>cases x<;>rfl
 .rintro i d G ts hd ⟨o,as,rfl,rfl,hi,hil,e⟩
  obtain⟨w,hw,rfl⟩:=mget hd
  obtain⟨hlt,hwi⟩:=List.getElem?_eq_some_iff.mp hw
  refine⟨by rw[length_map];lia,?_⟩
  fin2
  rw[List.drop_eq_getElem_cons hlt,hwi]at e
  cases hf:f w with
  |none=>
   rw[show allR f (w::ws.drop (i+1))=none by unfold allR;rw[hf]]at e
   rw[hr]at e
   cases e
  |some r'=>
   refine hsp w (hwi▸List.getElem_mem hlt) _ r' hf ?_
   cases r' with
   |none=>
    rw[show allR f (w::ws.drop (i+1))=some none by unfold allR;rw[hf]]at e
    rw[hr]at e
    cases e
    exact k
   |some a=>
    refine⟨_,as++[a],rfl,by rw[map_append];rfl,by rw[length_append,hi];rfl,hlt,?_⟩
    rw[show allR f (w::ws.drop (i+1))=(allR f (ws.drop (i+1))).map (Option.map (a::·)) by rw[allR,hf]]at e
    rw[e]
    cases allR f (ws.drop (i+1)) with
    |none=>rfl
    |some x=>
     cases x with
     |none=>rfl
     |some y=>simp
 .rintro G ts ⟨o,as,rfl,rfl,hi,hil,e⟩
  rw[length_map,List.drop_length]at e
  rw[hr]at e
  cases e
  rw[show Option.map (as++·) (some ([]:List α))=some as by simp]at k
  exact k
theorem pick {ds:List D}{i:Int}{f:Str->Bool}(h0:0<=i)(h1:i<ds.length)(h:(ds.all λd=>match d with
  | .str w=>f w
  |_=>false)=true):∃w,atI ds i=some (.str w)/\f w=true:=by
 have hlt:i.toNat<ds.length:=by lia
 have hm:=all_eq_true.mp h _ (List.getElem_mem hlt)
 have e:atI ds i=some ds[i.toNat]:=by
  have:=atI_nat (xs:=ds) (getElem?_eq_getElem hlt)
  rw[Int.toNat_of_nonneg h0]at this
  exact this
 rw[e]
 split at hm
 .rename_i w hw
  exact⟨w,by rw[hw],hm⟩
 .cases hm
theorem pickG {ds:List D}{i:Int}{f:Str->Bool}{P:D->Prop}(h0:0<=i)(h1:i<ds.length)(h:(ds.all λd=>match d with
  | .str w=>f w
  |_=>false)=true)(k:∀w,f w=true->P (.str w)):∃d,atI ds i=some d/\P d:=by
 obtain⟨w,e,hw⟩:=pick h0 h1 h
 exact⟨_,e,k w hw⟩
abbrev oBs (a b c d e f g:Bool):List (Str×Bool):=[("Question",true),("Size",a),("Bits",b),("Broad",c),("At",d),("Level",e),("Piece",f),("All",g)]
abbrev objM:List (Str×List (Str×Bool)):=[("Size",oBs true false false false false false false),("Bits",oBs false true false false false false false),("Broad",oBs false false true false false false false),("At",oBs false false false true false false false),("Level",oBs false false false false true false false),("Piece",oBs false false false false false true false),("All",oBs false false false false false false true)]
abbrev ns_Size:List Str:=[]
abbrev ns_Bits:List Str:=[]
abbrev ns_Broad:List Str:=[]
abbrev ns_All:List Str:=[]
abbrev ns_At:List Str:=["i","j"]
abbrev ns_Level:List Str:=["k"]
abbrev ns_Piece:List Str:=["top","left","high","wide"]
def sp_holds:DSp:=λds P=>∃lo hi n:Int,ds=[.tup [.int lo,.int hi],.int n]/\P (.fz (.bl (decide (lo<=n) && decide (n<=hi))))
abbrev s_holds:Stmt:=top 13
theorem sc_holds:FnScope ["one","number"] ["one","number"] (defScope s_holds):=by walk_at "S"
theorem ok_holds {f:Addr}{fd:FuncData}(Df:DefAt K mg "holds" s_holds f fd)(B:BltV mg)(KV:KitV K):
  Cal P w K mg base "holds" 1 ["one","number"] (spV K 2 sp_holds):=by
 refine CalV.of Df sc_holds (by walk_at "b") rfl (λc A o s H E hr=>⟨_,_,(pss_one (ps_ret (pe_chain op_le op_le (pe_ix ix_tup (pv 0) pe_int (λ_ _=>rfl)) (pv 1) (pe_ix ix_tup (pv 0) pe_int (λ_ _=>rfl))))),
  (sS_ret (sO_f (sF_chain oS_b0 oS_b0 (sB_op (OpF.b oF_ixT) sB_var (sB_f sF_int)) sB_var (sB_op (OpF.b oF_ixT) sB_var (sB_f sF_int))))),?_⟩)
 rintro ds Pr ⟨lo,hi,n,rfl,k⟩
 fin2
 split
 .rename_i h
  rw[decide_eq_true h,Bool.true_and]at k
  exact k
 .rename_i h
  rw[decide_eq_false h,Bool.false_and]at k
  exact k
def sp_read_number:DSpX:=λds P X=>∃x:Str,ds=[.str x]/\x.length<=100/\if badN x=true then X "NoText" else ∃n,PySem.intText? x=some n/\P (.fz (.int n))
abbrev s_read_number:Stmt:=top 17
theorem sc_read_number:FnScope ["word","figures"] ["word"] (defScope s_read_number):=by walk_at "S"
theorem ok_read_number {f:Addr}{fd:FuncData}(Df:DefAt K mg "read_number" s_read_number f fd)(B:BltV mg)(KV:KitV K){C_NoText:Addr}(h_NoText:nsIn K mainGlobals "NoText"=some (some (.ref C_NoText)))(O_NoText:PyProof.Rows.OwnCls "NoText" C_NoText [.type "ValueError",.type "Exception",.type "BaseException",.type "object"] "ValueError.__new__" mg base)(g_FIGURES:∃t,mg "FIGURES"=some (.str "0123456789" t))(g_FIGURE_SPAN:TupC K mg "FIGURE_SPAN" (D.tup [.int 1,.int 4]))(c_holds:Cal P w K mg base "holds" 1 ["one","number"] (spV K 2 sp_holds)):
  CalX0 P w K mg base "read_number" 2 ["word"] (spX K 1 sp_read_number):=by
 refine CalX0.of Df sc_read_number (by walk_at "b") rfl (λcdv A outer s H E hr F Xc hE=>⟨_,_,(pss_cons (ps_set (i:=1) sc_read_number.nd rfl (Or.inl rfl) (pe_ifExp (pt_val (pe_bm plainAttrs_str PySem.F.slot_str_startswith PySem.F.type_str_startswith mt_starts (pv 0) (pa_cons pe_str pa_nil))) (pe_slice sl_str (pv 0) (po_some pe_int) po_none) (pv 0)))
   (pss_cons (ps_if (pw_or (pt_cmpR op_ne (pe_bm plainAttrs_str PySem.F.slot_str_strip PySem.F.type_str_strip mt_strip (pv 1) (pa_cons (pe_globS (by rfl) g_FIGURES) pa_nil)) pe_str (nomark _)) (pw_or1 (pt_not (pt_val (pe_cal c_holds (hr.mono (by decide)) (by rfl) (pa_cons (pe_globT (by rfl) g_FIGURE_SPAN) (pa_cons (pe_callB call_len_str (by rfl) B.len boot_len (pa_cons (pv 1) pa_nil)) pa_nil))))))).pt (pss_one (ps_raise0 (by rfl) O_NoText excBase_ValueError hr.hd pe_str)) pss_nil)
   (pss_cons (ps_if (pw_and (pt_val (pe_bm plainAttrs_str PySem.F.slot_str_startswith PySem.F.type_str_startswith mt_starts (pv 1) (pa_cons pe_str pa_nil))) (pw_and1 (pt_cmpR op_ne (pv 0) pe_str (nomark _)))).pt (pss_one (ps_raise0 (by rfl) O_NoText excBase_ValueError hr.hd pe_str)) pss_nil)
   (pss_one (ps_ret (pe_callTy call_intT (by rfl) B.int PyProof.Rows.boot_int (pa_cons (pv 0) pa_nil))))))),
  (sP_seq (SimS.x (sS_set (sO_f (sF_if (sT_b (sF_starts sB_var (sB_f sF_str))) (sF_slS sF_var (sP_pt (sB_f sF_int)) sP_no) sF_var))))
   (sP_seq (sP_if (sT_or (sT_test (sF_op oS_ne (sB_f (sF_strip sB_var (sB_f sF_str))) (sB_f sF_str))) (sT_not (sT_b (sF_o (sO_call (sAF_cons sF_gl (sAF_cons (sF_cb cS_lenS (sAB_cons sB_var sAB_nil)) sAF_nil))))))) (sP_raise h_NoText hE (sB_f sF_str)) (SimS.x sS_next))
   (sP_seq (sP_if (sT_and (sT_b (sF_starts sB_var (sB_f sF_str))) (sT_test (sF_op oS_ne sB_var (sB_f sF_str)))) (sP_raise h_NoText hE (sB_f sF_str)) (SimS.x sS_next))
   (SimS.x (sS_ret (sO_f (sF_cb cS_intT (sAB_cons sB_var sAB_nil)))))))),?_⟩)
 rintro ds Pr ⟨x,rfl,hl,k⟩
 have hy:(figs x).length<=100:=by
  unfold figs
  split
  .exact le_trans (Txt.slice_le x _ _) hl
  .exact hl
 have main : ∀y,figs x=y->y.length<=1000000/\if (!decide (Txt.stripChars y (Str.ofString "0123456789")=Str.ofString ""))=true then Xc (Str.ofString "NoText") else y.length<=1000000/\sp_holds [D.tup [D.int 1,D.int 4],D.int (y.length:Int)] λr=>match r.val with
   |D.bl b=>if (!b)=true then Xc (Str.ofString "NoText") else if Txt.startswith y (Str.ofString "0")=true then (if (!decide (x=Str.ofString "0"))=true then Xc (Str.ofString "NoText") else ∃n,PySem.intText? x=some n/\x.length<=640/\Pr (OV.fz (D.int n))) else ∃n,PySem.intText? x=some n/\x.length<=640/\Pr (OV.fz (D.int n))
   |x=>False:=by
  intro y hfy
  unfold badN at k
  rw[hfy]at k hy
  refine⟨by omega,?_⟩
  generalize decide (Txt.stripChars y (Str.ofString "0123456789")=Str.ofString "")=b1 at k
  cases b1 with
  |false=>exact k
  |true=>
   rw[if_neg (by decide)]
   refine⟨by omega,1,4,y.length,rfl,?_⟩
   show if (!(decide ((1:Int)<=(y.length:Int)) && decide ((y.length:Int)<=4)))=true then _ else _
   generalize (decide ((1:Int)<=(y.length:Int)) && decide ((y.length:Int)<=4))=b2 at k
   cases b2 with
   |false=>exact k
   |true=>
    rw[if_neg (by decide)]
    generalize Txt.startswith y (Str.ofString "0")=b3 at k
    generalize decide (x=Str.ofString "0")=b4 at k
    cases b3 with
    |false=>
     obtain⟨n,h1,h2⟩:=k
     exact⟨n,h1,by omega,h2⟩
    |true=>
     cases b4 with
     |false=>exact k
     |true=>
      obtain⟨n,h1,h2⟩:=k
      exact⟨n,h1,by omega,h2⟩
 fin2
 by_cases hs:Txt.startswith x (Str.ofString "-")=true
 .rw [if_pos hs]
  exact⟨by omega,main _ (by unfold figs;rw[if_pos hs])⟩
 .rw [if_neg hs]
  exact main _ (by unfold figs;rw[if_neg hs])
def rr (x:Str):Option (Option Int):=if badN x=true then some none else match PySem.intText? x with
 |some n=>if n<0 then some none else some (some n)
 |none=>none
def sp_row_number:DSpX:=λds P X=>∃(x:Str) (r:Option Int),ds=[.str x]/\x.length<=100/\rr x=some r/\outX r (λn=>P (.fz (.int n))) X
abbrev s_row_number:Stmt:=top 28
theorem sc_row_number:FnScope ["word","number"] ["word"] (defScope s_row_number):=by walk_at "S"
theorem ok_row_number {f:Addr}{fd:FuncData}(Df:DefAt K mg "row_number" s_row_number f fd)(B:BltV mg)(KV:KitV K){C_NoRow:Addr}(h_NoRow:nsIn K mainGlobals "NoRow"=some (some (.ref C_NoRow)))(O_NoRow:PyProof.Rows.OwnCls "NoRow" C_NoRow [.type "ValueError",.type "Exception",.type "BaseException",.type "object"] "ValueError.__new__" mg base){W_NoText:Addr}(m_NoText:mg "NoText"=some (.ref W_NoText))(t_NoText:∀c∈(["NoText"]:List Str),∀C,nsIn K mainGlobals c=some (some (.ref C))->exmOne K (.ref C) (.ref W_NoText)=some true)(c_read_number:CalX0 P w K mg base "read_number" 2 ["word"] (spX K 1 sp_read_number)):
  CalX P w K mg base "row_number" 3 ["word"] (spX K 1 sp_row_number):=by
 refine CalXV.of Df sc_row_number (by walk_at "b") rfl (λcdv A outer s H E hr F Xc hE=>⟨_,_,(pss_cons (ps_tryN (xi:=1) rfl c_read_number (hr.mono (by decide)) (by rfl) (pa_cons (pv 0) pa_nil) (by rfl) m_NoText sc_row_number.nd rfl rfl (by rfl) O_NoRow excBase_ValueError)
   (pss_cons (ps_if (pt_cmpR op_lt (pv 1) pe_int (nomark _)) (pss_one (ps_raise (by rfl) O_NoRow excBase_ValueError hr.hd pe_str)) pss_nil)
   (pss_one (ps_ret (pv 1))))),
  (sP_seq (sP_tryN (cs:=["NoText"]) h_NoRow hE t_NoText (sAF_cons sF_var sAF_nil))
   (sP_seq (sP_if (sT_test (sF_op oS_b0 sB_var (sB_f sF_int))) (sP_raise h_NoRow hE (sB_f sF_str)) (SimS.x sS_next))
   (SimS.x (sS_ret (sO_f sF_var))))),?_⟩)
 rintro ds Pr ⟨x,r,rfl,hl,hr,k⟩
 gn_on
 refine⟨x,rfl,hl,?_⟩
 unfold rr at hr
 by_cases z:badN x=true
 .rw [if_pos z]at hr ⊢
  cases hr
  exact⟨by simp,k⟩
 .rw [if_neg z]at hr ⊢
  cases hi:PySem.intText? x with
  |none=>rw[hi]at hr;cases hr
  |some n=>
   rw[hi]at hr
   refine⟨n,rfl,?_⟩
   gp_on
   fin2
   dsimp only at hr
   by_cases hn:n<0
   .rw [if_pos hn]at hr ⊢
    cases hr
    exact k
   .rw [if_neg hn]at hr ⊢
    cases hr
    exact k
def sp_At___init__:DMo:=λts ds P=>∃a b:Int,ts=[]/\ds=[.int a,.int b]/\P [.fz (.int a),.fz (.int b)]
def sp_Level___init__:DMo:=λts ds P=>∃a:Int,ts=[]/\ds=[.int a]/\P [.fz (.int a)]
def sp_Piece___init__:DMo:=λts ds P=>∃a b c d:Int,ts=[]/\ds=[.int a,.int b,.int c,.int d]/\P [.fz (.int a),.fz (.int b),.fz (.int c),.fz (.int d)]
abbrev s_At___init__:Stmt:=inClass (top 24) 0
theorem sc_At___init__:FnScope ["self","i","j"] ["self","i","j"] (defScope s_At___init__):=by walk_at "S"
theorem ok_At___init__ {f:Addr}{fd:FuncData}(Df:Fun K "__init__" "At.__init__" s_At___init__ f fd)(Mf:MakAt K mg "At" f)(B:BltV mg)(KV:KitV K)(CV_At:ClsV K "At" ns_At):
  CalK P w K mg base "At" 1 ["self","i","j"] (spM K 3 "At" ns_At sp_At___init__):=by
 refine CalK.of Df Mf sc_At___init__ (by walk_at "b") rfl (λc A o s H E hr=>⟨_,_,(pss_cons (ps_fld (pv 0) (pv 1) rfl)
   (pss_one (ps_fld (pv 0) (pv 2) rfl))),
  (sS_seq (sS_fnew (j:=0) CV_At (by rfl) (sO_f sF_var))
   (sS_fnew (j:=1) CV_At (by rfl) (sO_f sF_var))),?_⟩)
 rintro a ts ds Pr ⟨i,j,rfl,rfl,k⟩
 fin2
 exact k
abbrev s_Level___init__:Stmt:=inClass (top 25) 0
theorem sc_Level___init__:FnScope ["self","k"] ["self","k"] (defScope s_Level___init__):=by walk_at "S"
theorem ok_Level___init__ {f:Addr}{fd:FuncData}(Df:Fun K "__init__" "Level.__init__" s_Level___init__ f fd)(Mf:MakAt K mg "Level" f)(B:BltV mg)(KV:KitV K)(CV_Level:ClsV K "Level" ns_Level):
  CalK P w K mg base "Level" 1 ["self","k"] (spM K 2 "Level" ns_Level sp_Level___init__):=by
 refine CalK.of Df Mf sc_Level___init__ (by walk_at "b") rfl (λc A o s H E hr=>⟨_,_,(pss_one (ps_fld (pv 0) (pv 1) rfl)),
  (sS_fnew (j:=0) CV_Level (by rfl) (sO_f sF_var)),?_⟩)
 rintro a ts ds Pr ⟨i,rfl,rfl,k⟩
 fin2
 exact k
abbrev s_Piece___init__:Stmt:=inClass (top 26) 0
theorem sc_Piece___init__:FnScope ["self","top","left","high","wide"] ["self","top","left","high","wide"] (defScope s_Piece___init__):=by walk_at "S"
theorem ok_Piece___init__ {f:Addr}{fd:FuncData}(Df:Fun K "__init__" "Piece.__init__" s_Piece___init__ f fd)(Mf:MakAt K mg "Piece" f)(B:BltV mg)(KV:KitV K)(CV_Piece:ClsV K "Piece" ns_Piece):
  CalK P w K mg base "Piece" 1 ["self","top","left","high","wide"] (spM K 5 "Piece" ns_Piece sp_Piece___init__):=by
 refine CalK.of Df Mf sc_Piece___init__ (by walk_at "b") rfl (λc A o s H E hr=>⟨_,_,(pss_cons (ps_fld (pv 0) (pv 1) rfl)
   (pss_cons (ps_fld (pv 0) (pv 2) rfl)
   (pss_cons (ps_fld (pv 0) (pv 3) rfl)
   (pss_one (ps_fld (pv 0) (pv 4) rfl))))),
  (sS_seq (sS_fnew (j:=0) CV_Piece (by rfl) (sO_f sF_var))
   (sS_seq (sS_fnew (j:=1) CV_Piece (by rfl) (sO_f sF_var))
   (sS_seq (sS_fnew (j:=2) CV_Piece (by rfl) (sO_f sF_var))
   (sS_fnew (j:=3) CV_Piece (by rfl) (sO_f sF_var))))),?_⟩)
 rintro a ts ds Pr ⟨i,j,m,n,rfl,rfl,k⟩
 fin2
 exact k
def wd:Nat->Str
 | 0 => "size" | 1 => "bits" | 2 => "broad" | 3 => "all" | 4 => "at" | 5 => "level" |_ => "piece"
def kc:Nat->Str
 | 0 => "Size" | 1 => "Bits" | 2 => "Broad" | 3 => "All" | 4 => "At" | 5 => "Level" |_ => "Piece"
def kn:Nat->List Str
 | 4=>ns_At | 5=>ns_Level | 6=>ns_Piece |_=>[]
def ct:Nat->Nat
 | 4=>2 | 5=>1 | 6=>4 |_=>0
theorem seven {j:Nat}(h:j<7):j=0∨j=1∨j=2∨j=3∨j=4∨j=5∨j=6:=by lia
abbrev tbl:List (Str×Int):=[("size",0),("bits",0),("broad",0),("at",2),("level",1),("piece",4),("all",0)]
abbrev obj (j:Nat)(ns:List Int):OV:=.ob none (kc j) (kn j) (ns.map λn=>.fz (.int n))
def sp_asked_by:DSp:=λds P=>∃(j:Nat) (ns:List Int),j<7/\ds=[.str (wd j),.lst (ns.map .int)]/\ns.length=ct j/\P (obj j ns)
abbrev s_asked_by:Stmt:=top 29
theorem sc_asked_by:FnScope ["name","numbers"] ["name","numbers"] (defScope s_asked_by):=by walk_at "S"
theorem ok_asked_by {f:Addr}{fd:FuncData}(Df:DefAt K mg "asked_by" s_asked_by f fd)(B:BltV mg)(KV:KitV K)(M0_All:Mk0 K mg "All")(M0_Size:Mk0 K mg "Size")(M0_Bits:Mk0 K mg "Bits")(M0_Broad:Mk0 K mg "Broad")(CV_Size:ClsV K "Size" ns_Size)(CV_Bits:ClsV K "Bits" ns_Bits)(CV_Broad:ClsV K "Broad" ns_Broad)(CV_At:ClsV K "At" ns_At)(CV_Level:ClsV K "Level" ns_Level)(CV_Piece:ClsV K "Piece" ns_Piece)(CV_All:ClsV K "All" ns_All)(c_At___init__:CalK P w K mg base "At" 1 ["self","i","j"] (spM K 3 "At" ns_At sp_At___init__))(c_Level___init__:CalK P w K mg base "Level" 1 ["self","k"] (spM K 2 "Level" ns_Level sp_Level___init__))(c_Piece___init__:CalK P w K mg base "Piece" 1 ["self","top","left","high","wide"] (spM K 5 "Piece" ns_Piece sp_Piece___init__)):
  Cal P w K mg base "asked_by" 3 ["name","numbers"] (spV K 2 sp_asked_by):=by
 refine CalV.of Df sc_asked_by (by walk_at "b") rfl (λc A o s H E hr=>⟨_,_,(pss_cons (ps_if (pt_cmpR op_eq (pv 0) pe_str (nomark _)) (pss_one (ps_ret (pe_mak0 M0_Size (by rfl)))) pss_nil)
   (pss_cons (ps_if (pt_cmpR op_eq (pv 0) pe_str (nomark _)) (pss_one (ps_ret (pe_mak0 M0_Bits (by rfl)))) pss_nil)
   (pss_cons (ps_if (pt_cmpR op_eq (pv 0) pe_str (nomark _)) (pss_one (ps_ret (pe_mak0 M0_Broad (by rfl)))) pss_nil)
   (pss_cons (ps_if (pt_cmpR op_eq (pv 0) pe_str (nomark _)) (pss_one (ps_ret (pe_makN c_At___init__ (hr.mono (by decide)) (by rfl) (pa_cons (pe_ix ix_list (pv 1) pe_int (λ_ _=>rfl)) (pa_cons (pe_ix ix_list (pv 1) pe_int (λ_ _=>rfl)) pa_nil))))) pss_nil)
   (pss_cons (ps_if (pt_cmpR op_eq (pv 0) pe_str (nomark _)) (pss_one (ps_ret (pe_makN c_Level___init__ (hr.mono (by decide)) (by rfl) (pa_cons (pe_ix ix_list (pv 1) pe_int (λ_ _=>rfl)) pa_nil)))) pss_nil)
   (pss_cons (ps_if (pt_cmpR op_eq (pv 0) pe_str (nomark _)) (pss_one (ps_ret (pe_makN c_Piece___init__ (hr.mono (by decide)) (by rfl) (pa_cons (pe_ix ix_list (pv 1) pe_int (λ_ _=>rfl)) (pa_cons (pe_ix ix_list (pv 1) pe_int (λ_ _=>rfl)) (pa_cons (pe_ix ix_list (pv 1) pe_int (λ_ _=>rfl)) (pa_cons (pe_ix ix_list (pv 1) pe_int (λ_ _=>rfl)) pa_nil))))))) pss_nil)
   (pss_one (ps_ret (pe_mak0 M0_All (by rfl)))))))))),
  (sS_seq (sS_if (sT_test (sF_op oS_eq sB_var (sB_f sF_str))) (sS_ret (sO_mak0 CV_Size)) sS_next)
   (sS_seq (sS_if (sT_test (sF_op oS_eq sB_var (sB_f sF_str))) (sS_ret (sO_mak0 CV_Bits)) sS_next)
   (sS_seq (sS_if (sT_test (sF_op oS_eq sB_var (sB_f sF_str))) (sS_ret (sO_mak0 CV_Broad)) sS_next)
   (sS_seq (sS_if (sT_test (sF_op oS_eq sB_var (sB_f sF_str))) (sS_ret (sO_make CV_At (sAF_cons (sF_opF oF_ixL sF_var sF_int) (sAF_cons (sF_opF oF_ixL sF_var sF_int) sAF_nil)))) sS_next)
   (sS_seq (sS_if (sT_test (sF_op oS_eq sB_var (sB_f sF_str))) (sS_ret (sO_make CV_Level (sAF_cons (sF_opF oF_ixL sF_var sF_int) sAF_nil))) sS_next)
   (sS_seq (sS_if (sT_test (sF_op oS_eq sB_var (sB_f sF_str))) (sS_ret (sO_make CV_Piece (sAF_cons (sF_opF oF_ixL sF_var sF_int) (sAF_cons (sF_opF oF_ixL sF_var sF_int) (sAF_cons (sF_opF oF_ixL sF_var sF_int) (sAF_cons (sF_opF oF_ixL sF_var sF_int) sAF_nil)))))) sS_next)
   (sS_ret (sO_mak0 CV_All)))))))),?_⟩)
 rintro ds Pr ⟨j,ns,hj,rfl,hl,k⟩
 fin2
 have n0:ns.length=0->ns=[]:=List.length_eq_zero_iff.mp
 rcases seven hj with rfl |rfl |rfl |rfl |rfl |rfl |rfl
 .cases n0 hl;rw[if_pos (by decide +kernel)];exact k
 .cases n0 hl;rw[if_neg (by decide +kernel),if_pos (by decide +kernel)];exact k
 .cases n0 hl;rw[if_neg (by decide +kernel),if_neg (by decide +kernel),if_pos (by decide +kernel)];exact k
 .cases n0 hl;rw[if_neg (by decide +kernel),if_neg (by decide +kernel),if_neg (by decide +kernel),if_neg (by decide +kernel),if_neg (by decide +kernel),if_neg (by decide +kernel)];exact k
 .rw [if_neg (by decide +kernel),if_neg (by decide +kernel),if_neg (by decide +kernel),if_pos (by decide +kernel)]
  match ns,hl with
  | [a,b],_=>exact⟨_,rfl,_,rfl,a,b,rfl,rfl,k⟩
 .rw [if_neg (by decide +kernel),if_neg (by decide +kernel),if_neg (by decide +kernel),if_neg (by decide +kernel),if_pos (by decide +kernel)]
  match ns,hl with
  | [a],_=>exact⟨_,rfl,a,rfl,rfl,k⟩
 .rw [if_neg (by decide +kernel),if_neg (by decide +kernel),if_neg (by decide +kernel),if_neg (by decide +kernel),if_neg (by decide +kernel),if_pos (by decide +kernel)]
  match ns,hl with
  | [a,b,c,d],_=>exact⟨_,rfl,_,rfl,_,rfl,_,rfl,a,b,c,d,rfl,rfl,k⟩
theorem tbl_wd {j:Nat}(h:j<7):optD tbl (wd j) = .int (ct j):=by
 have e:tbl.lookup (wd j)=some ((ct j:Nat):Int):=by rcases seven h with rfl |rfl |rfl |rfl |rfl |rfl |rfl<;>decide +kernel
 unfold optD
 rw[e]
theorem cut1 {d:D}{xs:List D}:cutD (d::xs) (some 1) none=xs:=by
 unfold L2.cutD
 rw[show HT.sIx (d::xs).length 0 (some 1)=1 by simp[HT.sIx];done,show HT.sIx (d::xs).length (d::xs).length none=(d::xs).length from rfl]
 simp
def sp_question:DSpX:=λds P X=>∃(r:Str) (w0:Str) (ws:List Str),ds=[.str r]/\r.length<=10000/\Txt.split r (Str.ofString " ")=w0::ws/\(∀w∈ws,w.length<=100)/\ws.length<=100/\
 ((optD tbl w0≠.int ws.length/\X "NoRow")∨∃(j:Nat) (r:Option (List Int)),j<7/\w0=wd j/\ws.length=ct j/\allR rr ws=some r/\outX r (λns=>P (obj j ns)) X)
abbrev s_question:Stmt:=top 30
theorem sc_question:FnScope ["row","words"] ["row"] (defScope s_question):=by walk_at "S"
theorem ok_question {f:Addr}{fd:FuncData}(Df:DefAt K mg "question" s_question f fd)(B:BltV mg)(KV:KitV K){C_NoRow:Addr}(h_NoRow:nsIn K mainGlobals "NoRow"=some (some (.ref C_NoRow)))(O_NoRow:PyProof.Rows.OwnCls "NoRow" C_NoRow [.type "ValueError",.type "Exception",.type "BaseException",.type "object"] "ValueError.__new__" mg base)(g_NUMBERS_BEHIND:DicI w K mg "NUMBERS_BEHIND" [("size",0),("bits",0),("broad",0),("at",2),("level",1),("piece",4),("all",0)])(c_asked_by:Cal P w K mg base "asked_by" 3 ["name","numbers"] (spV K 2 sp_asked_by))(c_row_number:CalX P w K mg base "row_number" 3 ["word"] (spX K 1 sp_row_number)):
  CalX P w K mg base "question" 4 ["row"] (spX K 1 sp_question):=by
 refine CalXV.of Df sc_question (by walk_at "b") rfl (λcdv A outer s H E hr F Xc hE=>⟨_,_,(pss_cons (ps_set (i:=1) sc_question.nd rfl (Or.inl rfl) (pe_bm plainAttrs_str PySem.F.slot_str_split PySem.F.type_str_split mt_split (pv 0) (pa_cons pe_str pa_nil)))
   (pss_cons (ps_if (pt_cmpR op_neZ (pe_dgetI (by rfl) g_NUMBERS_BEHIND (pa_cons (pe_ix ix_list (pv 1) pe_int (λ_ _=>rfl)) pa_nil)) (pe_op op_sub (pe_callB call_len_seq (by rfl) B.len boot_len (pa_cons (pv 1) pa_nil)) pe_int) (nomark _)) (pss_one (ps_raise (by rfl) O_NoRow excBase_ValueError hr.hd pe_str)) pss_nil)
   (pss_one (ps_ret (pe_cal c_asked_by (hr.mono (by decide)) (by rfl) (pa_cons (pe_ix ix_list (pv 1) pe_int (λ_ _=>rfl)) (pa_cons (pe_compX rfl (pi_list (pe_slice sl_listS (pv 1) (po_some pe_int) po_none)) (show BlkScope (defScope s_question) _ from⟨rfl,by decide +kernel,by decide +kernel,by decide +kernel⟩) (N:=["word"]) (ix:=[none]) (show CapOf _ _ _ _ from trivial) (λ_ _ _=>(pg_name (i:=0) (show List.Nodup (["word"]:List Str) by decide +kernel) rfl (Or.inl rfl))) c_row_number (hr.mono (by decide)) (λ_ _ _=>by rfl) (λ_ _ _=>(pa_cons (pv 0) pa_nil))) pa_nil))))))),
  (sP_seq (SimS.x (sS_set (sO_f (sF_o (sO_split sB_var (sB_f sF_str))))))
   (sP_seq (sP_if (sT_test (sF_op oS_neZ (sB_f (sF_dgetI (sAB_cons (sB_op (OpF.b oF_ixL) sB_var (sB_f sF_int)) sAB_nil))) (sB_f (sF_op oS_i0 (sB_f (sF_cb cS_len (sAB_cons sB_var sAB_nil))) (sB_f sF_int))))) (sP_raise h_NoRow hE (sB_f sF_str)) (SimS.x sS_next))
   (sP_ret (sP_cal2 (sF_opF oF_ixL sF_var sF_int) (sP_compX hE (sI_list (sF_o (sO_slL sF_var (sP_pt (sB_f sF_int)) sP_no))) sG_name (sAF_cons sF_var sAF_nil)))))),?_⟩)
 rintro ds Pr ⟨r,w0,ws,rfl,hr,hs,hw,hl,k⟩
 gn_on
 rw[hs]
 refine⟨by decide +kernel,by lia,?_⟩
 gp_on
 gn_on
 have ho:optD tbl w0 = .non∨∃i,optD tbl w0 = .int i:=by
  unfold optD
  split
  .exact .inr ⟨_,rfl⟩
  .exact .inl rfl
 rcases k with⟨hne,k⟩ | ⟨j,r',hj,rfl,hlen,har,k⟩
 .rcases ho with ho | ⟨i,ho⟩
  .rw [ho];exact k
  .rw [ho]at hne ⊢
   show if (!decide (i=((ws.length+1:Nat):Int)-1))=true then _ else _
   rw[if_pos (by rw[decide_eq_false (λz=>hne (by rw[z];congr 1;lia))];rfl)]
   exact k
 .rw [tbl_wd hj]
  show if (!decide (((ct j:Nat):Int)=((ws.length+1:Nat):Int)-1))=true then _ else _
  rw[if_neg (by rw[decide_eq_true (by lia)];decide)]
  gp_on
  fin2
  rw[cut1,map_map,map_map,map_map]
  refine allR_drop (f:=rr) (g:=λn=>.fz (.int n)) (by lia) (λw hw' Q r h1 h2=>⟨w,r,rfl,hw w hw',h1,h2⟩) har ?_
  cases r' with
  |none=>exact k
  |some ns=>exact⟨j,ns,hj,by rw[OV.val,OV.vals_eq,map_map];rfl,by rw[allR_len har,hlen],k⟩
abbrev s_law_cell_at:Stmt:=top 32
theorem sc_law_cell_at:FnScope ["_law_script","_law_k"] ["_law_script","_law_k"] (defScope s_law_cell_at):=by walk_at "S"
def sp_law_cell_at:DSp:=λds P=>∃(ns:List Int) (k:Int),ds=[.lst (ns.map .int),.int k]/\0<=k/\P (.fz (.int (ns.getD k.toNat 0)))
theorem ok_law_cell_at {f:Addr}{fd:FuncData}(Df:DefAt K mg "_law_cell_at" s_law_cell_at f fd)(B:BltV mg)(KV:KitV K):
  Cal P w K mg base "_law_cell_at" 1 ["_law_script","_law_k"] (spV K 2 sp_law_cell_at):=by
 refine CalV.of Df sc_law_cell_at (by walk_at "b") rfl (λc A o s H E hr=>⟨_,_,(pss_cons (ps_if (pt_cmpR op_lt (pv 1) (pe_callB call_len_seq (by rfl) B.len boot_len (pa_cons (pv 0) pa_nil)) (nomark _)) (pss_one (ps_ret (pe_ix ix_list (pv 0) (pv 1) (λ_ _=>rfl)))) pss_nil)
   (pss_one (ps_ret pe_int))),
  (sS_seq (sS_if (sT_test (sF_op oS_b0 sB_var (sB_f (sF_cb cS_len (sAB_cons sB_var sAB_nil))))) (sS_ret (sO_f (sF_opF oF_ixL sF_var sF_var))) sS_next)
   (sS_ret (sO_f sF_int))),?_⟩)
 rintro ds Pr ⟨ns,k,rfl,h0,q⟩
 fin2
 split
 .rename_i h
  exact⟨_,atI_ints h0 h,q⟩
 .rename_i h
  have e:ns.getD k.toNat 0=0:=by
   have hk:ns.length<=k.toNat:=by lia
   simp[List.getD,List.getElem?_eq_none hk]
  rw[e]at q
  exact q
def GN (w:Str):Prop:=w.length<=5/\32∉w.cps.toList/\∃n,rr w=some (some n)
theorem gn_num {n:Int}(h0:0<=n)(hn:n<=9999):GN (numT n):=by
 refine⟨numT_len (by lia),numT_free (by decide) (.inl (by decide)),n,?_⟩
 obtain⟨l,hl⟩:=numL.ex n
 rw[show numT n=tx l from hl.str]
 obtain⟨r,d,rfl⟩:=hl
 obtain⟨h1,h2,h3⟩:=word_good (show n.natAbs<=9999 by lia) d
 unfold rr
 rw[h1,h2,if_neg (by decide)]
 show (if n<0 then some none else some (some n))=_
 rw[if_neg (by lia)]
def sp_law_words:DSp:=λds P=>∃j:Nat,j<7/\ds=[.int j]/\P (.nl (.fz (.str (wd j))::List.replicate (ct j) (.fz (.str ""))))
abbrev s_law_words:Stmt:=top 33
theorem sc_law_words:FnScope ["_law_kind"] ["_law_kind"] (defScope s_law_words):=by walk_at "S"
theorem ok_law_words {f:Addr}{fd:FuncData}(Df:DefAt K mg "_law_words" s_law_words f fd)(B:BltV mg)(KV:KitV K):
  Cal P w K mg base "_law_words" 1 ["_law_kind"] (spV K 1 sp_law_words):=by
 refine CalV.of Df sc_law_words (by walk_at "b") rfl (λc A o s H E hr=>⟨_,_,(pss_one (ps_ret (pe_ix ix_list (pe_lstS (pa_cons (pe_lstS (pa_cons pe_str pa_nil)) (pa_cons (pe_lstS (pa_cons pe_str pa_nil)) (pa_cons (pe_lstS (pa_cons pe_str pa_nil)) (pa_cons (pe_lstS (pa_cons pe_str pa_nil)) (pa_cons (pe_lstS (pa_cons pe_str (pa_cons pe_str (pa_cons pe_str pa_nil)))) (pa_cons (pe_lstS (pa_cons pe_str (pa_cons pe_str pa_nil))) (pa_cons (pe_lstS (pa_cons pe_str (pa_cons pe_str (pa_cons pe_str (pa_cons pe_str (pa_cons pe_str pa_nil)))))) pa_nil (starEach_ns (by intro _ _ h;cases h))) (starEach_ns (by intro _ _ h;cases h))) (starEach_ns (by intro _ _ h;cases h))) (starEach_ns (by intro _ _ h;cases h))) (starEach_ns (by intro _ _ h;cases h))) (starEach_ns (by intro _ _ h;cases h))) (starEach_ns (by intro _ _ h;cases h)))) (pv 0) (λ_ _=>rfl)))),
  (sS_ret (sO_pick (sO_lst (sAO_cons (sO_lst (sAO_cons (sO_f sF_str) sAO_nil)) (sAO_cons (sO_lst (sAO_cons (sO_f sF_str) sAO_nil)) (sAO_cons (sO_lst (sAO_cons (sO_f sF_str) sAO_nil)) (sAO_cons (sO_lst (sAO_cons (sO_f sF_str) sAO_nil)) (sAO_cons (sO_lst (sAO_cons (sO_f sF_str) (sAO_cons (sO_f sF_str) (sAO_cons (sO_f sF_str) sAO_nil)))) (sAO_cons (sO_lst (sAO_cons (sO_f sF_str) (sAO_cons (sO_f sF_str) sAO_nil))) (sAO_cons (sO_lst (sAO_cons (sO_f sF_str) (sAO_cons (sO_f sF_str) (sAO_cons (sO_f sF_str) (sAO_cons (sO_f sF_str) (sAO_cons (sO_f sF_str) sAO_nil)))))) sAO_nil)))))))) sB_var)),?_⟩)
 rintro ds Pr ⟨j,hj,rfl,k⟩
 fin2
 rcases seven hj with rfl |rfl |rfl |rfl |rfl |rfl |rfl<;>exact⟨_,rfl,k⟩
theorem isi_at:∀j<7,∀k<7,∃y∈objM,kc j=y.1/\(kc k,decide (j=k))∈y.2:=by decide +kernel
theorem isi_q:∀j<7,∃y∈objM,kc j=y.1/\(Str.ofString "Question",true)∈y.2:=by decide +kernel
def sp_law_is_kind:DSp:=λds P=>∃(j k:Nat) (es:List D),j<7/\k<7/\ds=[.obj (kc j) (kn j) es,.int k]/\P (.fz (.bl (decide (j=k))))
abbrev s_law_is_kind:Stmt:=top 34
theorem sc_law_is_kind:FnScope ["_law_found","_law_kind"] ["_law_found","_law_kind"] (defScope s_law_is_kind):=by walk_at "S"
theorem ok_law_is_kind {f:Addr}{fd:FuncData}(Df:DefAt K mg "_law_is_kind" s_law_is_kind f fd)(B:BltV mg)(KV:KitV K)(OV_M:∀y∈objM,InsV K y.1 y.2)(n_Piece:NsOf K mg "Piece")(n_Size:NsOf K mg "Size")(n_Bits:NsOf K mg "Bits")(n_Broad:NsOf K mg "Broad")(n_All:NsOf K mg "All")(n_At:NsOf K mg "At")(n_Level:NsOf K mg "Level"):
  Cal P w K mg base "_law_is_kind" 1 ["_law_found","_law_kind"] (spV K 2 sp_law_is_kind):=by
 refine CalV.of Df sc_law_is_kind (by walk_at "b") rfl (λc A o s H E hr=>⟨_,_,(pss_cons (ps_if (pt_cmpR op_eq (pv 1) pe_int (nomark _)) (pss_one (ps_ret (pe_callB call_isO (by rfl) B.isinstance boot_isinstance (pa_cons (pv 0) (pa_cons (pe_fn (by rfl) n_Size) pa_nil))))) pss_nil)
   (pss_cons (ps_if (pt_cmpR op_eq (pv 1) pe_int (nomark _)) (pss_one (ps_ret (pe_callB call_isO (by rfl) B.isinstance boot_isinstance (pa_cons (pv 0) (pa_cons (pe_fn (by rfl) n_Bits) pa_nil))))) pss_nil)
   (pss_cons (ps_if (pt_cmpR op_eq (pv 1) pe_int (nomark _)) (pss_one (ps_ret (pe_callB call_isO (by rfl) B.isinstance boot_isinstance (pa_cons (pv 0) (pa_cons (pe_fn (by rfl) n_Broad) pa_nil))))) pss_nil)
   (pss_cons (ps_if (pt_cmpR op_eq (pv 1) pe_int (nomark _)) (pss_one (ps_ret (pe_callB call_isO (by rfl) B.isinstance boot_isinstance (pa_cons (pv 0) (pa_cons (pe_fn (by rfl) n_All) pa_nil))))) pss_nil)
   (pss_cons (ps_if (pt_cmpR op_eq (pv 1) pe_int (nomark _)) (pss_one (ps_ret (pe_callB call_isO (by rfl) B.isinstance boot_isinstance (pa_cons (pv 0) (pa_cons (pe_fn (by rfl) n_At) pa_nil))))) pss_nil)
   (pss_cons (ps_if (pt_cmpR op_eq (pv 1) pe_int (nomark _)) (pss_one (ps_ret (pe_callB call_isO (by rfl) B.isinstance boot_isinstance (pa_cons (pv 0) (pa_cons (pe_fn (by rfl) n_Level) pa_nil))))) pss_nil)
   (pss_one (ps_ret (pe_callB call_isO (by rfl) B.isinstance boot_isinstance (pa_cons (pv 0) (pa_cons (pe_fn (by rfl) n_Piece) pa_nil))))))))))),
  (sS_seq (sS_if (sT_test (sF_op oS_eq sB_var (sB_f sF_int))) (sS_ret (sO_f (sF_cb (cS_isO OV_M) (sAB_cons sB_var (sAB_cons (sB_f (sF_fn n_Size)) sAB_nil))))) sS_next)
   (sS_seq (sS_if (sT_test (sF_op oS_eq sB_var (sB_f sF_int))) (sS_ret (sO_f (sF_cb (cS_isO OV_M) (sAB_cons sB_var (sAB_cons (sB_f (sF_fn n_Bits)) sAB_nil))))) sS_next)
   (sS_seq (sS_if (sT_test (sF_op oS_eq sB_var (sB_f sF_int))) (sS_ret (sO_f (sF_cb (cS_isO OV_M) (sAB_cons sB_var (sAB_cons (sB_f (sF_fn n_Broad)) sAB_nil))))) sS_next)
   (sS_seq (sS_if (sT_test (sF_op oS_eq sB_var (sB_f sF_int))) (sS_ret (sO_f (sF_cb (cS_isO OV_M) (sAB_cons sB_var (sAB_cons (sB_f (sF_fn n_All)) sAB_nil))))) sS_next)
   (sS_seq (sS_if (sT_test (sF_op oS_eq sB_var (sB_f sF_int))) (sS_ret (sO_f (sF_cb (cS_isO OV_M) (sAB_cons sB_var (sAB_cons (sB_f (sF_fn n_At)) sAB_nil))))) sS_next)
   (sS_seq (sS_if (sT_test (sF_op oS_eq sB_var (sB_f sF_int))) (sS_ret (sO_f (sF_cb (cS_isO OV_M) (sAB_cons sB_var (sAB_cons (sB_f (sF_fn n_Level)) sAB_nil))))) sS_next)
   (sS_ret (sO_f (sF_cb (cS_isO OV_M) (sAB_cons sB_var (sAB_cons (sB_f (sF_fn n_Piece)) sAB_nil))))))))))),?_⟩)
 rintro ds Pr ⟨j,i,es,hj,hi,rfl,k⟩
 obtain⟨y,hy,e1,e2⟩:=isi_at j hj i hi
 fin2
 rcases seven hi with rfl |rfl |rfl |rfl |rfl |rfl |rfl
 .rw [if_pos (by decide)];exact⟨y,hy,e1,_,e2,k⟩
 .rw [if_neg (by decide),if_pos (by decide)];exact⟨y,hy,e1,_,e2,k⟩
 .rw [if_neg (by decide),if_neg (by decide),if_pos (by decide)];exact⟨y,hy,e1,_,e2,k⟩
 .rw [if_neg (by decide),if_neg (by decide),if_neg (by decide),if_pos (by decide)];exact⟨y,hy,e1,_,e2,k⟩
 .rw [if_neg (by decide),if_neg (by decide),if_neg (by decide),if_neg (by decide),if_pos (by decide)];exact⟨y,hy,e1,_,e2,k⟩
 .rw [if_neg (by decide),if_neg (by decide),if_neg (by decide),if_neg (by decide),if_neg (by decide),if_pos (by decide)];exact⟨y,hy,e1,_,e2,k⟩
 .rw [if_neg (by decide),if_neg (by decide),if_neg (by decide),if_neg (by decide),if_neg (by decide),if_neg (by decide)];exact⟨y,hy,e1,_,e2,k⟩
def GoodR (r:Str)(j:Nat):Prop:=r.length<=10000/\∃(ws:List Str) (ns:List Int),Txt.split r (Str.ofString " ")=wd j::ws/\(∀w∈ws,w.length<=100)/\ws.length=ct j/\allR rr ws=some (some ns)
theorem ct_le (j:Nat):ct j<=4:=by
 unfold ct;split<;>decide
def sp_law_right:DSp:=λds P=>∃(r:Str) (j:Nat),ds=[.str r,.int j]/\j<7/\GoodR r j/\P (.fz (.bl true))
abbrev s_law_right:Stmt:=top 35
theorem sc_law_right:FnScope ["_law_row","_law_kind","_law_found","_law_k"] ["_law_row","_law_kind"] (defScope s_law_right):=by walk_at "S"
theorem ok_law_right {f:Addr}{fd:FuncData}(Df:DefAt K mg "_law_right" s_law_right f fd)(B:BltV mg)(KV:KitV K)(OV_M:∀y∈objM,InsV K y.1 y.2)(n_Question:NsOf K mg "Question")(c_question:CalX P w K mg base "question" 4 ["row"] (spX K 1 sp_question))(c_law_is_kind:Cal P w K mg base "_law_is_kind" 1 ["_law_found","_law_kind"] (spV K 2 sp_law_is_kind)):
  Cal P w K mg base "_law_right" 5 ["_law_row","_law_kind"] (spV K 2 sp_law_right):=by
 refine CalV.of Df sc_law_right (by walk_at "b") rfl (λc A o s H E hr=>⟨_,_,(pss_cons (ps_set (i:=2) sc_law_right.nd rfl (Or.inl rfl) (pe_cal c_question.cal (hr.mono (by decide)) (by rfl) (pa_cons (pv 0) pa_nil)))
   (pss_cons (ps_if (pt_not (pt_val (pe_callB call_isO (by rfl) B.isinstance boot_isinstance (pa_cons (pv 2) (pa_cons (pe_fn (by rfl) n_Question) pa_nil))))) (pss_one (ps_ret pe_bl)) pss_nil)
   (pss_cons (ps_for PassesOwn.never rfl (pi_range1 (by rfl) (by exact B.range) (pa_cons pe_int pa_nil)) (pg_name (i:=3) sc_law_right.nd rfl (Or.inl rfl)) (pss_one (ps_if (pt_cmpR (op_neA hr.units) (pe_cal c_law_is_kind (hr.mono (by decide)) (by rfl) (pa_cons (pv 2) (pa_cons (pv 3) pa_nil))) (pe_cmpR op_eq (pv 3) (pv 1) (nomark _)) (nomark _)) (pss_one (ps_ret pe_bl)) pss_nil)))
   (pss_one (ps_ret pe_bl))))),
  (sS_seq (sS_set (sO_f (sF_o (sO_call (sAF_cons sF_var sAF_nil)))))
   (sS_seq (sS_if (sT_not (sT_b (sF_cb (cS_isO OV_M) (sAB_cons sB_var (sAB_cons (sB_f (sF_fn n_Question)) sAB_nil))))) (sS_ret (sO_f sF_bl)) sS_next)
   (sS_seq (sS_for (sI_rng1 (sAB_cons (sB_f sF_int) sAB_nil)) sG_name (sS_if (sT_test (sF_op oS_neA (sB_f (sF_o (sO_call (sAF_cons sF_var (sAF_cons sF_var sAF_nil))))) (sB_f (sF_op oS_eq sB_var sB_var)))) (sS_ret (sO_f sF_bl)) sS_next))
   (sS_ret (sO_f sF_bl))))),?_⟩)
 rintro ds Pr ⟨r,j,rfl,hj,⟨hr,ws,ns,hs,hw,hl,ha⟩,k⟩
 obtain⟨y,hy,e1,e2⟩:=isi_q j hj
 have:=ct_le j
 gn_on
 refine⟨r,wd j,ws,rfl,hr,hs,hw,by lia,.inr ⟨j,some ns,hj,rfl,hl,ha,?_⟩⟩
 show N _
 gp_on
 gn_on
 refine⟨y,hy,e1,true,e2,?_⟩
 show if (!true)=true then _ else _
 rw[if_neg (by decide)]
 gp_on
 gn_on
 refine⟨λn G=>∃o:Option Sl,G=[vD (.str r),vI j,vD (.obj (kc j) (kn j) (ns.map .int)),o],⟨none,rfl⟩,?_,?_⟩
 .rintro n d G hd ⟨o,rfl⟩
  obtain⟨hn,rfl⟩:=rng_inv hd
  simp only[gN,set_cons_succ,set_cons_zero]
  fin2
  rw[show 0+(n:Int)*1=n by lia]
  refine⟨j,n,_,hj,hn,rfl,?_⟩
  show neAD (.bl (decide (j=n))) (.bl (decide ((n:Int)=j))) _
  rw[show decide ((n:Int)=j)=decide (j=n) from decide_eq_decide.mpr (by lia)]
  refine .inl ?_
  show if (!decide (decide (j=n)=decide (j=n)))=true then _ else _
  rw[decide_eq_true rfl,if_neg (by decide)]
  exact⟨_,rfl⟩
 .rintro G ⟨o,rfl⟩
  gp_on
  fin2
  exact k
def oddB (w:Str):Bool:=decide (w.length<=100) && !(w.cps.toList.contains 32) && decide (rr w=some none)
theorem lg {n:Int}(h0:0<=n)(h:n<=9999):n.natAbs.log2<1920:=by
 rcases Nat.eq_zero_or_pos n.natAbs with z |z
 .rw [z];decide
 .have:=(Nat.log2_lt (k:=14) (by lia)).mpr (show n.natAbs<2^14 by lia)
  lia
def sp_law_number:DSp:=λds P=>∃c:Int,ds=[.int c]/\∀w,GN w->P (.fz (.str w))
abbrev s_law_number:Stmt:=top 36
theorem sc_law_number:FnScope ["_law_cell"] ["_law_cell"] (defScope s_law_number):=by walk_at "S"
theorem ok_law_number {f:Addr}{fd:FuncData}(Df:DefAt K mg "_law_number" s_law_number f fd)(B:BltV mg)(KV:KitV K):
  Cal P w K mg base "_law_number" 1 ["_law_cell"] (spV K 1 sp_law_number):=by
 refine CalV.of Df sc_law_number (by walk_at "b") rfl (λc A o s H E hr=>⟨_,_,(pss_cons (ps_if (pt_cmpR op_eq (pe_op op_mod (pv 0) pe_int) pe_int (nomark _)) (pss_one (ps_ret (pe_callTy call_str_int (by rfl) B.str PyProof.Rows.boot_str (pa_cons (pe_op op_mod (pe_op op_fdiv (pv 0) pe_int) pe_int) pa_nil)))) pss_nil)
   (pss_one (ps_ret (pe_callTy call_str_int (by rfl) B.str PyProof.Rows.boot_str (pa_cons (pe_op op_mod (pe_op op_fdiv (pv 0) pe_int) pe_int) pa_nil))))),
  (sS_seq (sS_if (sT_test (sF_op oS_eq (sB_f (sF_op oS_i sB_var (sB_f sF_int))) (sB_f sF_int))) (sS_ret (sO_f (sF_cb cS_str (sAB_cons (sB_f (sF_op oS_i (sB_f (sF_op oS_i sB_var (sB_f sF_int))) (sB_f sF_int))) sAB_nil)))) sS_next)
   (sS_ret (sO_f (sF_cb cS_str (sAB_cons (sB_f (sF_op oS_i (sB_f (sF_op oS_i sB_var (sB_f sF_int))) (sB_f sF_int))) sAB_nil))))),?_⟩)
 rintro ds Pr ⟨c,rfl,k⟩
 fin2
 split
 .exact ⟨lg (by lia) (by lia),k _ (gn_num (n:=c / 4%10000) (by lia) (by lia))⟩
 .exact ⟨lg (by lia) (by lia),k _ (gn_num (n:=c / 4%70) (by lia) (by lia))⟩
def sp_law_odd_number:DSp:=λds P=>∃c:Int,ds=[.int c]/\∀w,oddB w=true->P (.fz (.str w))
abbrev s_law_odd_number:Stmt:=top 37
theorem sc_law_odd_number:FnScope ["_law_cell","_law_some"] ["_law_cell"] (defScope s_law_odd_number):=by walk_at "S"
theorem ok_law_odd_number {f:Addr}{fd:FuncData}(Df:DefAt K mg "_law_odd_number" s_law_odd_number f fd)(B:BltV mg)(KV:KitV K):
  Cal P w K mg base "_law_odd_number" 1 ["_law_cell"] (spV K 1 sp_law_odd_number):=by
 refine CalV.of Df sc_law_odd_number (by walk_at "b") rfl (λc A o s H E hr=>⟨_,_,(pss_cons (ps_set (i:=1) sc_law_odd_number.nd rfl (Or.inl rfl) (pe_lstS (pa_cons pe_str (pa_cons pe_str (pa_cons pe_str (pa_cons pe_str (pa_cons pe_str (pa_cons pe_str (pa_cons pe_str (pa_cons pe_str (pa_cons pe_str (pa_cons pe_str (pa_cons pe_str (pa_cons pe_str (pa_cons pe_str (pa_cons pe_str (pa_cons pe_str pa_nil)))))))))))))))))
   (pss_one (ps_ret (pe_ix ix_list (pv 1) (pe_op op_mod (pv 0) (pe_callB call_len_seq (by rfl) B.len boot_len (pa_cons (pv 1) pa_nil))) (λ_ _=>rfl))))),
  (sS_seq (sS_set (sO_f (sF_o (sO_lst (sAO_cons (sO_f sF_str) (sAO_cons (sO_f sF_str) (sAO_cons (sO_f sF_str) (sAO_cons (sO_f sF_str) (sAO_cons (sO_f sF_str) (sAO_cons (sO_f sF_str) (sAO_cons (sO_f sF_str) (sAO_cons (sO_f sF_str) (sAO_cons (sO_f sF_str) (sAO_cons (sO_f sF_str) (sAO_cons (sO_f sF_str) (sAO_cons (sO_f sF_str) (sAO_cons (sO_f sF_str) (sAO_cons (sO_f sF_str) (sAO_cons (sO_f sF_str) sAO_nil)))))))))))))))))))
   (sS_ret (sO_f (sF_opF oF_ixL sF_var (sF_op oS_i sB_var (sB_f (sF_cb cS_len (sAB_cons sB_var sAB_nil)))))))),?_⟩)
 rintro ds Pr ⟨c,rfl,k⟩
 fin2
 refine⟨by decide,?_⟩
 refine pickG (f:=oddB) (by lia) (by show c%15<15;lia) (by decide +kernel) λw hw=>k w hw
def oddR (r:Str):Bool:=decide (r.length<=10000) && (match Txt.split r (Str.ofString " ") with
 |w0::ws=>ws.all (λw=>decide (w.length<=100)) && decide (ws.length<=100) && decide (tbl.lookup w0≠some (ws.length:Int))
 | []=>false)
def sp_law_odd_row:DSp:=λds P=>∃c:Int,ds=[.int c]/\∀r,oddR r=true->P (.fz (.str r))
abbrev s_law_odd_row:Stmt:=top 38
theorem sc_law_odd_row:FnScope ["_law_cell","_law_some"] ["_law_cell"] (defScope s_law_odd_row):=by walk_at "S"
theorem ok_law_odd_row {f:Addr}{fd:FuncData}(Df:DefAt K mg "_law_odd_row" s_law_odd_row f fd)(B:BltV mg)(KV:KitV K):
  Cal P w K mg base "_law_odd_row" 1 ["_law_cell"] (spV K 1 sp_law_odd_row):=by
 refine CalV.of Df sc_law_odd_row (by walk_at "b") rfl (λc A o s H E hr=>⟨_,_,(pss_cons (ps_set (i:=1) sc_law_odd_row.nd rfl (Or.inl rfl) (pe_lstS (pa_cons pe_str (pa_cons pe_str (pa_cons pe_str (pa_cons pe_str (pa_cons pe_str (pa_cons pe_str (pa_cons pe_str (pa_cons pe_str (pa_cons pe_str (pa_cons pe_str (pa_cons pe_str pa_nil)))))))))))))
   (pss_cons (ps_set (i:=1) sc_law_odd_row.nd rfl (Or.inl rfl) (pe_op op_catS (pv 1) (pe_lstS (pa_cons pe_str (pa_cons pe_str (pa_cons pe_str (pa_cons pe_str (pa_cons pe_str (pa_cons pe_str (pa_cons pe_str (pa_cons pe_str (pa_cons pe_str (pa_cons pe_str (pa_cons pe_str pa_nil))))))))))))))
   (pss_one (ps_ret (pe_ix ix_list (pv 1) (pe_op op_mod (pv 0) (pe_callB call_len_seq (by rfl) B.len boot_len (pa_cons (pv 1) pa_nil))) (λ_ _=>rfl)))))),
  (sS_seq (sS_set (sO_f (sF_o (sO_lst (sAO_cons (sO_f sF_str) (sAO_cons (sO_f sF_str) (sAO_cons (sO_f sF_str) (sAO_cons (sO_f sF_str) (sAO_cons (sO_f sF_str) (sAO_cons (sO_f sF_str) (sAO_cons (sO_f sF_str) (sAO_cons (sO_f sF_str) (sAO_cons (sO_f sF_str) (sAO_cons (sO_f sF_str) (sAO_cons (sO_f sF_str) sAO_nil)))))))))))))))
   (sS_seq (sS_set (sO_f (sF_o (sO_catL sF_var (sF_o (sO_lst (sAO_cons (sO_f sF_str) (sAO_cons (sO_f sF_str) (sAO_cons (sO_f sF_str) (sAO_cons (sO_f sF_str) (sAO_cons (sO_f sF_str) (sAO_cons (sO_f sF_str) (sAO_cons (sO_f sF_str) (sAO_cons (sO_f sF_str) (sAO_cons (sO_f sF_str) (sAO_cons (sO_f sF_str) (sAO_cons (sO_f sF_str) sAO_nil)))))))))))))))))
   (sS_ret (sO_f (sF_opF oF_ixL sF_var (sF_op oS_i sB_var (sB_f (sF_cb cS_len (sAB_cons sB_var sAB_nil))))))))),?_⟩)
 rintro ds Pr ⟨c,rfl,k⟩
 fin2
 refine⟨by decide,?_⟩
 exact pickG (f:=oddR) (by lia) (by show c%22<22;lia) (by decide +kernel) λw hw=>k w hw
def Refd (r:Str):Prop:=r.length<=10000/\∃(w0:Str) (ws:List Str),Txt.split r (Str.ofString " ")=w0::ws/\(∀w∈ws,w.length<=100)/\ws.length<=100/\(optD tbl w0≠.int ws.length∨∃j,j<7/\w0=wd j/\ws.length=ct j/\allR rr ws=some none)
theorem ref_q {s:Str}{P:OV->Prop}{X:Str->Prop}(h:Refd s)(x:X "NoRow"):sp_question [.str s] P X:=by
 obtain⟨hl,w0,ws,hs,hw,hn,h⟩:=h
 exact⟨s,w0,ws,rfl,hl,hs,hw,hn,h.elim (λh=>.inl ⟨h,x⟩) λ⟨j,hj,e,hl',ha⟩=>.inr ⟨j,none,hj,e,hl',ha,x⟩⟩
def sp_law_refused:DSp:=λds P=>∃s:Str,ds=[.str s]/\Refd s/\P (.fz (.bl true))
abbrev s_law_refused:Stmt:=top 40
theorem sc_law_refused:FnScope ["_law_row","_law_kinds","e"] ["_law_row"] (defScope s_law_refused):=by walk_at "S"
theorem ok_law_refused {f:Addr}{fd:FuncData}(Df:DefAt K mg "_law_refused" s_law_refused f fd)(B:BltV mg)(KV:KitV K){W_WaveError:Addr}(m_WaveError:mg "WaveError"=some (.ref W_WaveError))(x_NoRow:∀c∈(["NoRow"]:List Str),∀C,nsIn K mainGlobals c=some (some (.ref C))->exmOne K (.ref C) (.ref W_WaveError)=some true)(EV_NoRow:ExcV K "NoRow" [("NoRow",true),("NoHead",false),("NoLadder",false),("NoBits",false),("NoLevel",false),("NoPicture",false),("NoPiece",false),("NoText",false),("TooMany",false)] [("ValueError",true)])(zB_ValueError:mg "ValueError"=none)(n_NoRow:NsOf K mg "NoRow")(n_NoHead:NsOf K mg "NoHead")(n_NoLadder:NsOf K mg "NoLadder")(n_NoBits:NsOf K mg "NoBits")(n_NoLevel:NsOf K mg "NoLevel")(n_NoPicture:NsOf K mg "NoPicture")(n_NoPiece:NsOf K mg "NoPiece")(n_NoText:NsOf K mg "NoText")(n_TooMany:NsOf K mg "TooMany")(c_question:CalX P w K mg base "question" 4 ["row"] (spX K 1 sp_question)):
  Cal P w K mg base "_law_refused" 5 ["_law_row"] (spV K 1 sp_law_refused):=by
 refine CalV.of Df sc_law_refused (by walk_at "b") rfl (λc A o s H E hr=>⟨_,_,(pss_cons (ps_set (i:=1) sc_law_refused.nd rfl (Or.inl rfl) (pe_lstS pa_nil))
   (pss_cons (ps_try2 (ni:=2) rfl rfl (λ_ _ z=>z) c_question (hr.mono (by decide)) (by rfl) (pa_cons (pv 0) pa_nil) (by rfl) m_WaveError sc_law_refused.nd rfl rfl rfl (λ_=>(pss_cons (ps_set (i:=1) sc_law_refused.nd rfl (Or.inl rfl) (pe_lstS (pa_cons (pe_callB call_isX (by rfl) B.isinstance boot_isinstance (pa_cons (pv 2) (pa_cons (pe_fn (by rfl) n_NoRow) pa_nil))) (pa_cons (pe_callB call_isX (by rfl) B.isinstance boot_isinstance (pa_cons (pv 2) (pa_cons (pe_bltn (v:=.ty "ValueError") (by rfl) zB_ValueError boot_ValueError (by rfl)) pa_nil))) (pa_cons (pe_callB call_isX (by rfl) B.isinstance boot_isinstance (pa_cons (pv 2) (pa_cons (pe_fn (by rfl) n_NoHead) pa_nil))) (pa_cons (pe_callB call_isX (by rfl) B.isinstance boot_isinstance (pa_cons (pv 2) (pa_cons (pe_fn (by rfl) n_NoLadder) pa_nil))) pa_nil))))))
   (pss_cons (ps_set (i:=1) sc_law_refused.nd rfl (Or.inl rfl) (pe_op op_catS (pv 1) (pe_lstS (pa_cons (pe_callB call_isX (by rfl) B.isinstance boot_isinstance (pa_cons (pv 2) (pa_cons (pe_fn (by rfl) n_NoBits) pa_nil))) (pa_cons (pe_callB call_isX (by rfl) B.isinstance boot_isinstance (pa_cons (pv 2) (pa_cons (pe_fn (by rfl) n_NoLevel) pa_nil))) (pa_cons (pe_callB call_isX (by rfl) B.isinstance boot_isinstance (pa_cons (pv 2) (pa_cons (pe_fn (by rfl) n_NoPicture) pa_nil))) pa_nil))))))
   (pss_one (ps_set (i:=1) sc_law_refused.nd rfl (Or.inl rfl) (pe_op op_catS (pv 1) (pe_lstS (pa_cons (pe_callB call_isX (by rfl) B.isinstance boot_isinstance (pa_cons (pv 2) (pa_cons (pe_fn (by rfl) n_NoPiece) pa_nil))) (pa_cons (pe_callB call_isX (by rfl) B.isinstance boot_isinstance (pa_cons (pv 2) (pa_cons (pe_fn (by rfl) n_NoText) pa_nil))) (pa_cons (pe_callB call_isX (by rfl) B.isinstance boot_isinstance (pa_cons (pv 2) (pa_cons (pe_fn (by rfl) n_TooMany) pa_nil))) pa_nil)))))))))))
   (pss_one (ps_ret (pe_cmpR (op_eqN hr.units) (pv 1) (pe_op op_catS (pe_lstS (pa_cons pe_bl (pa_cons pe_bl pa_nil))) (pe_op op_rep (pe_lstS (pa_cons pe_bl pa_nil)) pe_int)) (nomark _)))))),
  (sS_seq (sS_set (sO_f (sF_o (sO_lst sAO_nil))))
   (sS_seq (sS_try2 (cs:=["NoRow"]) x_NoRow (sAF_cons sF_var sAF_nil) (sS_seq (sS_set (sO_f (sF_o (sO_lst (sAO_cons (sO_f (sF_cb (cS_isX EV_NoRow) (sAB_cons sB_var (sAB_cons (sB_f (sF_fn n_NoRow)) sAB_nil)))) (sAO_cons (sO_f (sF_cb (cS_isX EV_NoRow) (sAB_cons sB_var (sAB_cons (sB_f sF_ty) sAB_nil)))) (sAO_cons (sO_f (sF_cb (cS_isX EV_NoRow) (sAB_cons sB_var (sAB_cons (sB_f (sF_fn n_NoHead)) sAB_nil)))) (sAO_cons (sO_f (sF_cb (cS_isX EV_NoRow) (sAB_cons sB_var (sAB_cons (sB_f (sF_fn n_NoLadder)) sAB_nil)))) sAO_nil))))))))
   (sS_seq (sS_set (sO_f (sF_o (sO_catL sF_var (sF_o (sO_lst (sAO_cons (sO_f (sF_cb (cS_isX EV_NoRow) (sAB_cons sB_var (sAB_cons (sB_f (sF_fn n_NoBits)) sAB_nil)))) (sAO_cons (sO_f (sF_cb (cS_isX EV_NoRow) (sAB_cons sB_var (sAB_cons (sB_f (sF_fn n_NoLevel)) sAB_nil)))) (sAO_cons (sO_f (sF_cb (cS_isX EV_NoRow) (sAB_cons sB_var (sAB_cons (sB_f (sF_fn n_NoPicture)) sAB_nil)))) sAO_nil)))))))))
   (sS_set (sO_f (sF_o (sO_catL sF_var (sF_o (sO_lst (sAO_cons (sO_f (sF_cb (cS_isX EV_NoRow) (sAB_cons sB_var (sAB_cons (sB_f (sF_fn n_NoPiece)) sAB_nil)))) (sAO_cons (sO_f (sF_cb (cS_isX EV_NoRow) (sAB_cons sB_var (sAB_cons (sB_f (sF_fn n_NoText)) sAB_nil)))) (sAO_cons (sO_f (sF_cb (cS_isX EV_NoRow) (sAB_cons sB_var (sAB_cons (sB_f (sF_fn n_TooMany)) sAB_nil)))) sAO_nil))))))))))))
   (sS_ret (sO_f (sF_op oS_eqN sB_var (sB_f (sF_o (sO_catL (sF_o (sO_lst (sAO_cons (sO_f sF_bl) (sAO_cons (sO_f sF_bl) sAO_nil)))) (sF_o (sO_rep1 (sO_lst (sAO_cons (sO_f sF_bl) sAO_nil)) (sB_f sF_int))))))))))),?_⟩)
 rintro ds Pr ⟨s,rfl,h,k⟩
 gn_on
 gp_on
 gn_on
 refine ref_q h ?_
 refine⟨by simp,rfl,true,by simp,rfl,true,by simp,rfl,false,by simp,rfl,false,by simp,rfl,false,by simp,rfl,false,by simp,rfl,false,by simp,rfl,false,by simp,rfl,false,by simp,rfl,false,by simp,?_⟩
 gp_on
 fin2
 exact⟨rfl,rfl,k⟩
theorem ref_odd {r:Str}(h:oddR r=true):Refd r:=by
 unfold oddR at h
 rw[and_eq_true,decide_eq_true_eq]at h
 obtain⟨h1,h2⟩:=h
 split at h2
 .rename_i w0 ws e
  simp only[and_eq_true,all_eq_true,decide_eq_true_eq]at h2
  obtain⟨⟨h3,h4⟩,h5⟩:=h2
  refine⟨h1,w0,ws,e,h3,h4,.inl λz=>h5 ?_⟩
  unfold optD at z
  split at z
  .rename_i i hi
   rw[hi,D.int.inj z]
  .cases z
 .cases h2
theorem sum_le:∀{ws:List Str},(∀w∈ws,w.length<=100)->(ws.map (·.length)).sum<=100*ws.length
 | [],_=>zero_le _
 |w::ws,h=>by
  have h1:=h w mem_cons_self
  have h2:=sum_le (ws:=ws) λx hx=>h x (mem_cons_of_mem _ hx)
  rw[map_cons,List.sum_cons,length_cons]
  lia
theorem join_len {ws:List Str}(hl:∀w∈ws,w.length<=100)(hn:ws.length<=20):(Str.join (tx [32]) ws).length<=10000:=by
 refine le_trans (PySem.StrLaws.join_length_le _ _) ?_
 have:=sum_le hl
 rw[show (tx [32]).length=1 from rfl]
 lia
theorem split_row {w0:Str}{ws:List Str}(hf:∀x∈w0::ws,32∉x.cps.toList):Txt.split (Str.join (tx [32]) (w0::ws)) (Str.ofString " ")=w0::ws:=by
 rw[blank_tx]
 exact split_words 32 _ (by simp) hf
theorem ref_words {w0:Str}{ws:List Str}(hf:∀x∈w0::ws,32∉x.cps.toList)(hl:∀x∈w0::ws,x.length<=100)(hn:ws.length<=10)(h:optD tbl w0≠.int ws.length∨∃j,j<7/\w0=wd j/\ws.length=ct j/\allR rr ws=some none):Refd (Str.join (tx [32]) (w0::ws)):=
 ⟨join_len hl (by rw[length_cons];lia),w0,ws,split_row hf,λw hw=>hl w (mem_cons_of_mem _ hw),by lia,h⟩
theorem wd_ok:∀j<7,32∉(wd j).cps.toList/\(wd j).length<=10:=by decide +kernel
theorem allR_odd {f:Str->Option (Option Int)}:∀{ws:List Str},(∀w∈ws,f w=some none∨∃n,f w=some (some n))->(∃w∈ws,f w=some none)->allR f ws=some none
 | [],_,⟨w,h,_⟩=>by cases h
 |v :: ws,h,⟨w,hw,e⟩=>by
  rcases h v mem_cons_self with z | ⟨n,z⟩
  .unfold allR
   rw[z]
  .rcases mem_cons.mp hw with q |q
   .rw [q,z]at e;cases e
   .unfold allR
    rw[z,allR_odd (λx hx=>h x (mem_cons_of_mem _ hx)) ⟨w,q,e⟩]
    rfl
theorem ixN_at {n:Nat}{i:Int}(h0:0<=i)(h:i<n):ixN n i=some i.toNat:=by
 unfold ixN
 rw[if_pos h0]
 try rw[if_pos (by omega)]
def newB (w:Str):Bool:=decide (tbl.lookup w=none) && decide (w.length<=100) && !(w.cps.toList.contains 32)
theorem new_words:∀j<7,(Txt.upper (wd j)).length<=100/\([D.str (Str.ofString "x"++wd j),D.str (wd j++Str.ofString "s"),D.str (Txt.upper (wd j)),D.str (Txt.slice (wd j) (some 1) none)].all λd=>match d with
  | .str w=>newB w
  |_=>false)=true:=by decide +kernel
def sp_law_spoiled:DSp:=λds P=>∃(j:Nat) (ws:List Str) (way c:Int),ds=[.lst ((wd j::ws).map D.str),.int way,.int c]/\j<7/\ws.length=ct j/\(∀w∈ws,GN w)/\0<=way/\way<6/\∀s,Refd s->P (.fz (.str s))
abbrev s_law_spoiled:Stmt:=top 39
theorem sc_law_spoiled:FnScope ["_law_words_here","_law_way","_law_cell"] ["_law_words_here","_law_way","_law_cell"] (defScope s_law_spoiled):=by walk_at "S"
theorem ok_law_spoiled {f:Addr}{fd:FuncData}(Df:DefAt K mg "_law_spoiled" s_law_spoiled f fd)(B:BltV mg)(KV:KitV K)(c_law_odd_number:Cal P w K mg base "_law_odd_number" 1 ["_law_cell"] (spV K 1 sp_law_odd_number))(c_law_number:Cal P w K mg base "_law_number" 1 ["_law_cell"] (spV K 1 sp_law_number))(c_law_odd_row:Cal P w K mg base "_law_odd_row" 1 ["_law_cell"] (spV K 1 sp_law_odd_row)):
  Cal P w K mg base "_law_spoiled" 2 ["_law_words_here","_law_way","_law_cell"] (spV K 3 sp_law_spoiled):=by
 refine CalV.of Df sc_law_spoiled (by walk_at "b") rfl (λc A o s H E hr=>⟨_,_,(pss_cons (ps_set (i:=0) sc_law_spoiled.nd rfl (Or.inl rfl) (pe_callTy call_listS (by rfl) B.list PyProof.Rows.boot_list (pa_cons (pv 0) pa_nil)))
   (pss_cons (ps_if (pw_and (pt_cmpR op_eq (pv 1) pe_int (nomark _)) (pw_and1 (pt_cmpR op_gt (pe_callB call_len_seq (by rfl) B.len boot_len (pa_cons (pv 0) pa_nil)) pe_int (nomark _)))).pt (pss_one (ps_asg (pe_cal c_law_odd_number (hr.mono (by decide)) (by rfl) (pa_cons (pe_op op_fdiv (pv 2) pe_int) pa_nil)) (pg_sub (pv 0) (pe_op op_add pe_int (pe_op op_mod (pv 2) (pe_op op_sub (pe_callB call_len_seq (by rfl) B.len boot_len (pa_cons (pv 0) pa_nil)) pe_int))) set_list))) pss_nil)
   (pss_cons (ps_if (pw_or (pt_cmpR op_eq (pv 1) pe_int (nomark _)) (pw_or1 (pw_and (pt_cmpR op_eq (pv 1) pe_int (nomark _)) (pw_and1 (pt_cmpR op_eq (pe_callB call_len_seq (by rfl) B.len boot_len (pa_cons (pv 0) pa_nil)) pe_int (nomark _)))).pt)).pt (pss_one (ps_expr (pe_bm plainAttrs_list PySem.F.slot_list_append PySem.F.type_list_append mt_append (pv 0) (pa_cons (pe_cal c_law_number (hr.mono (by decide)) (by rfl) (pa_cons (pv 2) pa_nil)) pa_nil)))) pss_nil)
   (pss_cons (ps_if (pt_cmpR op_eq (pv 1) pe_int (nomark _)) (pss_one (ps_asg (pe_ix ix_list (pe_lstS (pa_cons (pe_op op_add_str pe_str (pe_ix ix_list (pv 0) pe_int (λ_ _=>rfl))) (pa_cons (pe_op op_add_str (pe_ix ix_list (pv 0) pe_int (λ_ _=>rfl)) pe_str) (pa_cons (pe_bm0 plainAttrs_str PySem.F.slot_str_upper PySem.F.type_str_upper mt_upper (pe_ix ix_list (pv 0) pe_int (λ_ _=>rfl))) (pa_cons (pe_slice sl_str (pe_ix ix_list (pv 0) pe_int (λ_ _=>rfl)) (po_some pe_int) po_none) pa_nil))))) (pe_op op_mod (pv 2) pe_int) (λ_ _=>rfl)) (pg_sub (pv 0) pe_int set_list))) pss_nil)
   (pss_cons (ps_if (pt_cmpR op_eq (pv 1) pe_int (nomark _)) (pss_one (ps_expr (pe_bm plainAttrs_list PySem.F.slot_list_insert PySem.F.type_list_insert mt_insert (pv 0) (pa_cons (pe_op op_mod (pv 2) (pe_op op_add (pe_callB call_len_seq (by rfl) B.len boot_len (pa_cons (pv 0) pa_nil)) pe_int)) (pa_cons pe_str pa_nil))))) pss_nil)
   (pss_cons (ps_if (pw_and (pt_cmpR op_eq (pv 1) pe_int (nomark _)) (pw_and1 (pt_cmpR op_gt (pe_callB call_len_seq (by rfl) B.len boot_len (pa_cons (pv 0) pa_nil)) pe_int (nomark _)))).pt (pss_one (ps_expr (pe_bm plainAttrs_list PySem.F.slot_list_pop PySem.F.type_list_pop mt_popAt (pv 0) (pa_cons (pe_op op_add pe_int (pe_op op_mod (pv 2) (pe_op op_sub (pe_callB call_len_seq (by rfl) B.len boot_len (pa_cons (pv 0) pa_nil)) pe_int))) pa_nil)))) pss_nil)
   (pss_cons (ps_if (pw_or (pt_cmpR op_eq (pv 1) pe_int (nomark _)) (pw_or1 (pw_and (pt_cmpR op_eq (pv 1) pe_int (nomark _)) (pw_and1 (pt_cmpR op_eq (pe_callB call_len_seq (by rfl) B.len boot_len (pa_cons (pv 0) pa_nil)) pe_int (nomark _)))).pt)).pt (pss_one (ps_ret (pe_cal c_law_odd_row (hr.mono (by decide)) (by rfl) (pa_cons (pv 2) pa_nil)))) pss_nil)
   (pss_one (ps_ret (pe_bm plainAttrs_str PySem.F.slot_str_join PySem.F.type_str_join mt_join pe_str (pa_cons (pv 0) pa_nil))))))))))),
  (sS_seq (sS_set (sO_listB (sAB_cons sB_var sAB_nil)))
   (sS_seq (sS_if (sT_and (sT_test (sF_op oS_eq sB_var (sB_f sF_int))) (sT_test (sF_op oS_b0 (sB_f (sF_cb cS_len (sAB_cons sB_var sAB_nil))) (sB_f sF_int)))) (sS_put (sO_call (sAF_cons (sF_op oS_i sB_var (sB_f sF_int)) sAF_nil)) (sB_f (sF_op oS_i0 (sB_f sF_int) (sB_f (sF_op oS_i sB_var (sB_f (sF_op oS_i0 (sB_f (sF_cb cS_len (sAB_cons sB_var sAB_nil))) (sB_f sF_int)))))))) sS_next)
   (sS_seq (sS_if (sT_or (sT_test (sF_op oS_eq sB_var (sB_f sF_int))) (sT_and (sT_test (sF_op oS_eq sB_var (sB_f sF_int))) (sT_test (sF_op oS_eq (sB_f (sF_cb cS_len (sAB_cons sB_var sAB_nil))) (sB_f sF_int))))) (sS_app (sO_call (sAF_cons sF_var sAF_nil))) sS_next)
   (sS_seq (sS_if (sT_test (sF_op oS_eq sB_var (sB_f sF_int))) (sS_put (sO_f (sF_opF oF_ixL (sF_o (sO_lst (sAO_cons (sO_f (sF_op oS_addS (sB_f sF_str) (sB_op (OpF.b oF_ixL) sB_var (sB_f sF_int)))) (sAO_cons (sO_f (sF_op oS_addS (sB_op (OpF.b oF_ixL) sB_var (sB_f sF_int)) (sB_f sF_str))) (sAO_cons (sO_f (sF_upper (sB_op (OpF.b oF_ixL) sB_var (sB_f sF_int)))) (sAO_cons (sO_f (sF_slS (sF_lf (sB_op (OpF.b oF_ixL) sB_var (sB_f sF_int))) (sP_pt (sB_f sF_int)) sP_no)) sAO_nil)))))) (sF_op oS_i sB_var (sB_f sF_int)))) (sB_f sF_int)) sS_next)
   (sS_seq (sS_if (sT_test (sF_op oS_eq sB_var (sB_f sF_int))) (sS_ins (sB_f (sF_op oS_i sB_var (sB_f (sF_op oS_i0 (sB_f (sF_cb cS_len (sAB_cons sB_var sAB_nil))) (sB_f sF_int))))) (sO_f sF_str)) sS_next)
   (sS_seq (sS_if (sT_and (sT_test (sF_op oS_eq sB_var (sB_f sF_int))) (sT_test (sF_op oS_b0 (sB_f (sF_cb cS_len (sAB_cons sB_var sAB_nil))) (sB_f sF_int)))) (sS_popI (sB_f (sF_op oS_i0 (sB_f sF_int) (sB_f (sF_op oS_i sB_var (sB_f (sF_op oS_i0 (sB_f (sF_cb cS_len (sAB_cons sB_var sAB_nil))) (sB_f sF_int)))))))) sS_next)
   (sS_seq (sS_if (sT_or (sT_test (sF_op oS_eq sB_var (sB_f sF_int))) (sT_and (sT_test (sF_op oS_eq sB_var (sB_f sF_int))) (sT_test (sF_op oS_eq (sB_f (sF_cb cS_len (sAB_cons sB_var sAB_nil))) (sB_f sF_int))))) (sS_ret (sO_call (sAF_cons sF_var sAF_nil))) sS_next)
   (sS_ret (sO_f (sF_join (sB_f sF_str) sB_var)))))))))),?_⟩)
 rintro ds Pr ⟨j,ws,way,c,rfl,hj,hl,hg,y0,y1,k⟩
 have h4:=ct_le j
 obtain⟨f0,l0⟩:=wd_ok j hj
 gn_on
 refine⟨by rw[D.lfs_eq];simp[D.lf],?_⟩
 have fin:∀(w0:Str) (xs:List Str),(∀x∈w0::xs,32∉x.cps.toList/\x.length<=100)->xs.length<=10->(optD tbl w0≠.int xs.length∨∃j,j<7/\w0=wd j/\xs.length=ct j/\allR rr xs=some none)->(sRet (dFz (dJoin (dC (.str (Str.ofString " "))) (dB 0))):DS) {nx:=λ_=>Pr (.fz .non),rt:=Pr} [vL ((w0::xs).map (OV.fz∘D.str)),vI way,vI c]:=by
  intro w0 xs h1 h2 h3
  have hs:=sum_le (ws:=w0::xs) λx hx=>(h1 x hx).2
  fin2
  refine⟨w0::xs,by rw[map_map];rfl,?_,?_⟩
  .rw [show (Str.ofString " ").length=1 from rfl]
   rw[length_cons]at hs ⊢
   lia
  .rw [blank_tx,join_eq]
   exact k _ (ref_words (λx hx=>(h1 x hx).1) (λx hx=>(h1 x hx).2) h2 h3)
 have okW:∀x∈wd j::ws,32∉x.cps.toList/\x.length<=100:=λx hx=>by
  rcases mem_cons.mp hx with rfl |z
  .exact ⟨f0,by lia⟩
  .have:=hg x z
   exact⟨this.2.1,by have:=this.1;lia⟩
 rw[map_map]
 gp_on
 have neT:∀n:Nat,n≠ct j->optD tbl (wd j)≠.int n:=λn hn z=>by
  rw[tbl_wd hj]at z
  have:=D.int.inj z
  lia
 have okA:∀w,32∉w.cps.toList->w.length<=100->∀xs:List Str,(∀x∈xs,x∈ws∨x=w)->∀x∈wd j::xs,32∉x.cps.toList/\x.length<=100:=λw h1 h2 xs hx x hm=>by
  rcases mem_cons.mp hm with z |z
  .exact okW x (z▸mem_cons_self)
  .rcases hx x z with z |rfl
   .exact okW x (mem_cons_of_mem _ z)
   .exact ⟨h1,h2⟩
 rcases (show way=0∨way=1∨way=2∨way=3∨way=4∨way=5 by lia) with rfl |rfl |rfl |rfl |rfl |rfl
 .by_cases h0:ct j=0
  .gn_on
   rw[if_neg (by lia)]
   gp_on
   gn_on
   rw[if_pos (show ((ws.length+1:Nat):Int)=1 by lia)]
   refine⟨by lia,c,rfl,λw hw=>?_⟩
   fin2
   iterate 4 (gp_on;gn_on)
   gp_on
   have:=fin (wd j) (ws++[w]) (okA w hw.2.1 (by have:=hw.1;lia) _ λx hx=>by simpa using hx) (by rw[length_append,length_singleton];lia) (.inl (neT _ (by rw[length_append,length_singleton];lia)))
   rw[map_cons,map_append]at this
   exact this
  .gn_on
   rw[if_pos (by lia),show ((ws.length+1:Nat):Int)-1=(ws.length:Int) by lia]
   have a0:0<=c%(ws.length:Int):=emod_nonneg _ (by lia)
   have a1:c%(ws.length:Int)<ws.length:=emod_lt_of_pos _ (by lia)
   generalize c%(ws.length:Int)=pi at a0 a1
   obtain⟨p,rfl⟩:∃p:Nat,pi=p:=⟨pi.toNat,by lia⟩
   refine⟨c / 4,rfl,λw hw=>⟨by lia,p+1,?_,?_⟩⟩
   .rw [ixN_at (by lia) (by lia)];congr 1;lia
   simp only[oddB,and_eq_true,decide_eq_true_eq,Bool.not_eq_true',List.contains_eq_mem,decide_eq_false_iff_not]at hw
   obtain⟨⟨w1,w2⟩,w3⟩:=hw
   have hlen:(ws.set p w).length=ct j:=by rw[length_set,hl]
   rw[set_cons_succ,show (ws.map (OV.fz∘D.str)).set p (OV.fz (D.str w))=(ws.set p w).map (OV.fz∘D.str) from List.map_set.symm]
   gp_on
   gn_on
   rw[if_neg (show ¬ (((ws.set p w).length+1:Nat):Int)=1 by lia)]
   iterate 4 (gp_on;gn_on)
   gp_on
   refine fin (wd j) (ws.set p w) (okA w w2 w1 _ λx hx=>(List.mem_or_eq_of_mem_set hx)) (by lia) (.inr ⟨j,hj,rfl,hlen,allR_odd (λx hx=>?_) ⟨w,List.mem_set (show p<ws.length by lia) w,w3⟩⟩)
   rcases List.mem_or_eq_of_mem_set hx with z |z
   .exact .inr (hg x z).2.2
   .rw [z];exact .inl w3
 .gn_on
  gp_on
  gn_on
  refine⟨by lia,c,rfl,λw hw=>?_⟩
  fin2
  iterate 4 (gp_on;gn_on)
  gp_on
  have:=fin (wd j) (ws++[w]) (okA w hw.2.1 (by have:=hw.1;lia) _ λx hx=>by simpa using hx) (by rw[length_append,length_singleton];lia) (.inl (neT _ (by rw[length_append,length_singleton];lia)))
  rw[map_cons,map_append]at this
  exact this
 .iterate 2 (gn_on;gp_on)
  gn_on
  obtain⟨n1,n2⟩:=new_words j hj
  refine⟨by rw[show (Str.ofString "x").length=1 from rfl];lia,by rw[show (Str.ofString "s").length=1 from rfl];lia,by lia,by lia,pickG (f:=newB) (by lia) (by show c%4<4;lia) n2 λw hw=>⟨0,by rw[ixN_at (by lia) (by lia)];rfl,?_⟩⟩
  simp only[newB,and_eq_true,decide_eq_true_eq,Bool.not_eq_true',List.contains_eq_mem,decide_eq_false_iff_not]at hw
  obtain⟨⟨w1,w2⟩,w3⟩:=hw
  rw[set_cons_zero]
  iterate 3 (gp_on;gn_on)
  gp_on
  refine fin w ws (λx hx=>?_) (by lia) (.inl ?_)
  .rcases mem_cons.mp hx with z |z
   .rw [z];exact⟨w3,w2⟩
   .exact okW x (mem_cons_of_mem _ z)
  .unfold optD
   rw[w1]
   exact λz=>by cases z
 .iterate 3 (gn_on;gp_on)
  gn_on
  have a0:0<=c%(((ws.length+1:Nat):Int)+1):=emod_nonneg _ (by lia)
  have a1:c%(((ws.length+1:Nat):Int)+1)<((ws.length+1:Nat):Int)+1:=emod_lt_of_pos _ (by lia)
  refine⟨by lia,by lia,a0,by lia,?_⟩
  generalize c%(((ws.length+1:Nat):Int)+1)=pi at a0 a1
  obtain⟨p,rfl⟩:∃p:Nat,pi=p:=⟨pi.toNat,by lia⟩
  rw[Int.toNat_natCast]
  have e0:32∉(Str.ofString "").cps.toList:=by decide +kernel
  have e1:(Str.ofString "").length<=100:=by decide +kernel
  cases p with
  |zero=>
   iterate 2 (gp_on;gn_on)
   gp_on
   refine fin (Str.ofString "") (wd j::ws) (λx hx=>?_) (by rw[length_cons];lia) (.inl ?_)
   .rcases mem_cons.mp hx with z |z
    .rw [z];exact⟨e0,e1⟩
    .exact okW x z
   .unfold optD
    rw[show tbl.lookup (Str.ofString "")=none by decide +kernel]
    exact λz=>by cases z
  |succ p=>
   rw[List.take_succ_cons,List.drop_succ_cons]
   have:=fin (wd j) (ws.take p++Str.ofString ""::ws.drop p) (okA _ e0 e1 _ λx hx=>?_) (by rw[length_append,length_cons,length_take,length_drop];lia) (.inl (neT _ (by rw[length_append,length_cons,length_take,length_drop];lia)))
   .rw [map_cons,map_append,map_cons,List.map_take,List.map_drop]at this
    iterate 2 (gp_on;gn_on)
    gp_on
    exact this
   .rcases mem_append.mp hx with z |z
    .exact .inl (List.mem_of_mem_take z)
    .rcases mem_cons.mp z with z |z
     .exact .inr z
     .exact .inl (List.mem_of_mem_drop z)
 .iterate 4 (gn_on;gp_on)
  gn_on
  by_cases h0:ct j=0
  .rw [if_neg (by lia)]
   gp_on
   gn_on
   rw[if_pos (show ((ws.length+1:Nat):Int)=1 by lia)]
   exact⟨c,rfl,λr hr=>k r (ref_odd hr)⟩
  .rw [if_pos (by lia),show ((ws.length+1:Nat):Int)-1=(ws.length:Int) by lia]
   have a0:0<=c%(ws.length:Int):=emod_nonneg _ (by lia)
   have a1:c%(ws.length:Int)<ws.length:=emod_lt_of_pos _ (by lia)
   generalize c%(ws.length:Int)=pi at a0 a1
   obtain⟨p,rfl⟩:∃p:Nat,pi=p:=⟨pi.toNat,by lia⟩
   refine⟨by lia,by lia,by lia,by lia,?_⟩
   rw[show (1+(p:Int)).toNat=p+1 by lia,List.eraseIdx_cons_succ,show (ws.map (OV.fz∘D.str)).eraseIdx p=(ws.eraseIdx p).map (OV.fz∘D.str) by rw[List.eraseIdx_eq_take_drop_succ,List.eraseIdx_eq_take_drop_succ,map_append,List.map_take,List.map_drop]]
   have hlen:(ws.eraseIdx p).length=ct j-1:=by rw[List.length_eraseIdx_of_lt (by lia),hl]
   gp_on
   gn_on
   by_cases h1:ct j=1
   .rw [if_pos (show (((ws.eraseIdx p).length+1:Nat):Int)=1 by lia)]
    exact⟨c,rfl,λr hr=>k r (ref_odd hr)⟩
   rw[if_neg (show ¬ (((ws.eraseIdx p).length+1:Nat):Int)=1 by lia)]
   gp_on
   exact fin (wd j) (ws.eraseIdx p) (λx hx=>okW x (by rcases mem_cons.mp hx with z |z;exact z▸mem_cons_self;exact mem_cons_of_mem _ (List.mem_of_mem_eraseIdx z))) (by lia) (.inl (neT _ (by lia)))
 .iterate 5 (gn_on;gp_on)
  gn_on
  exact⟨c,rfl,λr hr=>k r (ref_odd hr)⟩
theorem good_row {j:Nat}{ws:List Str}(hj:j<7)(hl:ws.length=ct j)(hg:∀w∈ws,GN w):GoodR (Str.join (tx [32]) (wd j::ws)) j:=by
 have h4:=ct_le j
 obtain⟨f0,l0⟩:=wd_ok j hj
 have ha:∃ns,allR rr ws=some (some ns):=by
  clear hl
  induction ws with
  |nil=>exact⟨[],rfl⟩
  |cons w ws ih=>
   obtain⟨n,hn⟩:=(hg w mem_cons_self).2.2
   obtain⟨ns,h⟩:=ih λx hx=>hg x (mem_cons_of_mem _ hx)
   exact⟨n::ns,by unfold allR;rw[hn,h];rfl⟩
 obtain⟨ns,ha⟩:=ha
 have ok:∀x∈wd j::ws,32∉x.cps.toList/\x.length<=100:=λx hx=>by
  rcases mem_cons.mp hx with rfl |z
  .exact ⟨f0,by lia⟩
  .have:=hg x z
   exact⟨this.2.1,by have:=this.1;lia⟩
 exact⟨join_len (λx hx=>(ok x hx).2) (by rw[length_cons];lia),ws,ns,split_row λx hx=>(ok x hx).1,λw hw=>(ok w (mem_cons_of_mem _ hw)).2,hl,ha⟩
abbrev s_law:Stmt:=top 41
theorem sc_law:FnScope ["_law_script","_law_kind","_law_words_here","_law_k","_law_row","_law_bad"] ["_law_script"] (defScope s_law):=by walk_at "S"
theorem ok_law {f:Addr}{fd:FuncData}(Df:DefAt K mg "law" s_law f fd)(B:BltV mg)(KV:KitV K)(c_law_cell_at:Cal P w K mg base "_law_cell_at" 1 ["_law_script","_law_k"] (spV K 2 sp_law_cell_at))(c_law_words:Cal P w K mg base "_law_words" 1 ["_law_kind"] (spV K 1 sp_law_words))(c_law_number:Cal P w K mg base "_law_number" 1 ["_law_cell"] (spV K 1 sp_law_number))(c_law_spoiled:Cal P w K mg base "_law_spoiled" 2 ["_law_words_here","_law_way","_law_cell"] (spV K 3 sp_law_spoiled))(c_law_right:Cal P w K mg base "_law_right" 5 ["_law_row","_law_kind"] (spV K 2 sp_law_right))(c_law_refused:Cal P w K mg base "_law_refused" 5 ["_law_row"] (spV K 1 sp_law_refused)):
  FnOk P w K mg base CX0 6 f fd ["_law_script"] (spLaw K):=by
 refine law_ok Df sc_law (λc A o s H E hr=>⟨_,_,(pss_cons (ps_set (i:=1) sc_law.nd rfl (Or.inl rfl) (pe_op op_mod (pe_cal c_law_cell_at (hr.mono (by decide)) (by rfl) (pa_cons (pv 0) (pa_cons pe_int pa_nil))) pe_int))
   (pss_cons (ps_set (i:=2) sc_law.nd rfl (Or.inl rfl) (pe_cal c_law_words (hr.mono (by decide)) (by rfl) (pa_cons (pv 1) pa_nil)))
   (pss_cons (ps_for PassesOwn.never rfl (pi_range2 (by rfl) (by exact B.range) (pa_cons pe_int (pa_cons (pe_callB call_len_seq (by rfl) B.len boot_len (pa_cons (pv 2) pa_nil)) pa_nil))) (pg_name (i:=3) sc_law.nd rfl (Or.inl rfl)) (pss_one (ps_asg (pe_cal c_law_number (hr.mono (by decide)) (by rfl) (pa_cons (pe_cal c_law_cell_at (hr.mono (by decide)) (by rfl) (pa_cons (pv 0) (pa_cons (pv 3) pa_nil))) pa_nil)) (pg_sub (pv 2) (pv 3) set_list))))
   (pss_cons (ps_set (i:=4) sc_law.nd rfl (Or.inl rfl) (pe_bm plainAttrs_str PySem.F.slot_str_join PySem.F.type_str_join mt_join pe_str (pa_cons (pv 2) pa_nil)))
   (pss_cons (ps_set (i:=5) sc_law.nd rfl (Or.inl rfl) (pe_cal c_law_spoiled (hr.mono (by decide)) (by rfl) (pa_cons (pv 2) (pa_cons (pe_op op_mod (pe_cal c_law_cell_at (hr.mono (by decide)) (by rfl) (pa_cons (pv 0) (pa_cons pe_int pa_nil))) pe_int) (pa_cons (pe_cal c_law_cell_at (hr.mono (by decide)) (by rfl) (pa_cons (pv 0) (pa_cons pe_int pa_nil))) pa_nil)))))
   (pss_cons (ps_if (pt_not (pt_val (pe_cal c_law_right (hr.mono (by decide)) (by rfl) (pa_cons (pv 4) (pa_cons (pv 1) pa_nil))))) (pss_one (ps_ret pe_bl)) pss_nil)
   (pss_one (ps_ret (pe_and (pe_cal c_law_refused (hr.mono (by decide)) (by rfl) (pa_cons (pv 5) pa_nil)) (pe_one (pe_cal c_law_right (hr.mono (by decide)) (by rfl) (pa_cons (pv 4) (pa_cons (pv 1) pa_nil))))))))))))),
  (sS_seq (sS_set (sO_f (sF_op oS_i (sB_f (sF_o (sO_call (sAF_cons sF_var (sAF_cons sF_int sAF_nil))))) (sB_f sF_int))))
   (sS_seq (sS_set (sO_call (sAF_cons sF_var sAF_nil)))
   (sS_seq (sS_for (sI_rng2 (sAB_cons (sB_f sF_int) (sAB_cons (sB_f (sF_cb cS_len (sAB_cons sB_var sAB_nil))) sAB_nil))) sG_name (sS_put (sO_call (sAF_cons (sF_o (sO_call (sAF_cons sF_var (sAF_cons sF_var sAF_nil)))) sAF_nil)) sB_var))
   (sS_seq (sS_frz 2 (sS_set (sO_f (sF_join (sB_f sF_str) sB_var))))
   (sS_seq (sS_set (sO_f (sF_o (sO_call (sAF_cons sF_var (sAF_cons (sF_op oS_i (sB_f (sF_o (sO_call (sAF_cons sF_var (sAF_cons sF_int sAF_nil))))) (sB_f sF_int)) (sAF_cons (sF_o (sO_call (sAF_cons sF_var (sAF_cons sF_int sAF_nil)))) sAF_nil)))))))
   (sS_seq (sS_if (sT_not (sT_b (sF_o (sO_call (sAF_cons sF_var (sAF_cons sF_var sAF_nil)))))) (sS_ret (sO_f sF_bl)) sS_next)
   (sS_ret (sO_f (sF_andV (sF_o (sO_call (sAF_cons sF_var sAF_nil))) (sF_o (sO_call (sAF_cons sF_var (sAF_cons sF_var sAF_nil))))))))))))),?_⟩)
 intro ns hns
 gn_on
 refine⟨ns,0,rfl,by decide,?_⟩
 fin2
 generalize ns.getD 0 0=c0
 have a0:0<=c0%7:=emod_nonneg _ (by decide)
 have a1:c0%7<7:=emod_lt_of_pos _ (by decide)
 generalize c0%7=ji at a0 a1
 obtain⟨j,rfl⟩:∃j:Nat,ji=j:=⟨ji.toNat,by lia⟩
 have hj:j<7:=by lia
 have h4:=ct_le j
 gp_on
 gn_on
 refine⟨j,hj,rfl,?_⟩
 fin2
 gp_on
 gn_on
 rw[length_replicate,show (((ct j+1:Nat):Int)-1).toNat=ct j by lia]
 refine⟨⟨by lia,by lia⟩,λn G=>∃(ws:List Str) (o:Option Sl),G=[vD (.lst (ns.map .int)),vI j,vL (.fz (.str (wd j))::(ws.map (OV.fz∘D.str)++List.replicate (ct j-n) (.fz (.str "")))),o,none,none]/\ws.length=n/\∀w∈ws,GN w,⟨[],none,rfl,rfl,λw hw=>by cases hw⟩,?_,?_⟩
 .rintro n d G hd ⟨ws,o,rfl,hwl,hg⟩
  obtain⟨hn,rfl⟩:=rng_inv hd
  simp only[gN,set_cons_succ,set_cons_zero]
  fin2
  rw[show (1:Int)+(n:Int)*1=(n+1:Nat) by lia]
  refine⟨ns,n+1,rfl,by lia,?_⟩
  fin2
  refine⟨_,rfl,λw hw=>⟨n+1,?_,ws++[w],vI ((n+1:Nat):Int),?_,by rw[length_append,hwl];rfl,λx hx=>?_⟩⟩
  .rw [ixN_at (by lia) (by rw[length_append,length_map,length_replicate];lia)];congr 1
  .rw [set_cons_succ,show ct j-n=(ct j-(n+1))+1 by lia,replicate_succ,List.set_append_right _ _ (by rw[length_map];lia),length_map,hwl,Nat.sub_self,set_cons_zero,map_append,List.append_assoc]
   rfl
  .rcases mem_append.mp hx with z |z
   .exact hg x z
   .rw [mem_singleton.mp z];exact hw
 .rintro G ⟨ws,o,rfl,hwl,hg⟩
  rw[rng_len]at hwl ⊢
  rw[Nat.sub_self,List.replicate_zero,append_nil]
  have gr:=good_row hj hwl hg
  gp_on
  gn_on
  have em:D.str (wd j)::List.map OV.val (List.map (OV.fz∘D.str) ws)=(wd j::ws).map D.str:=by rw[map_map];rfl
  have hs:=sum_le (ws:=wd j::ws) λx hx=>by
   rcases mem_cons.mp hx with rfl |z
   .have:=(wd_ok j hj).2;lia
   .have:=(hg x z).1;lia
  rw[em]
  refine⟨wd j::ws,rfl,?_,?_⟩
  .rw [show (Str.ofString " ").length=1 from rfl]
   rw[length_cons]at hs ⊢
   lia
  rw[blank_tx,join_eq]
  gp_on
  gn_on
  refine⟨ns,5,rfl,by decide,?_⟩
  fin2
  refine⟨ns,6,rfl,by decide,?_⟩
  fin2
  refine⟨j,ws,_,_,rfl,hj,hwl,hg,emod_nonneg _ (by decide),emod_lt_of_pos _ (by decide),λs hs=>?_⟩
  fin2
  gp_on
  gn_on
  refine⟨_,j,rfl,hj,gr,?_⟩
  fin2
  gp_on
  fin2
  refine⟨s,rfl,hs,?_⟩
  fin2
  exact⟨_,j,rfl,hj,gr,rfl⟩
end
theorem csts {w:World}{K:Frag}{h:Heap}{mg:Str->Option Value}(X:K.In h)(δ:h.Ns mainGlobals mg)
  (af:nsIn K mainGlobals "FIGURE_SPAN"=some (some (.ref aT_FIGURE_SPAN))) (ae:K.lookup aT_FIGURE_SPAN=some ⟨.type "tuple",od_FIGURE_SPAN,.seq #[.int 1 tk_FIGURE_SPAN_0,.int 4 tk_FIGURE_SPAN_1] nT_FIGURE_SPAN,sl_FIGURE_SPAN⟩)
  (ad:nsIn K mainGlobals "NUMBERS_BEHIND"=some (some (.ref aT_NUMBERS_BEHIND))) (ac:K.lookup aT_NUMBERS_BEHIND=some ⟨.type "dict",none,.dict #[⟨PyData.keyHash w.params "size",.str "size" tk_NUMBERS_BEHIND_0,.int 0 ti_NUMBERS_BEHIND_0⟩,⟨PyData.keyHash w.params "bits",.str "bits" tk_NUMBERS_BEHIND_1,.int 0 ti_NUMBERS_BEHIND_1⟩,⟨PyData.keyHash w.params "broad",.str "broad" tk_NUMBERS_BEHIND_2,.int 0 ti_NUMBERS_BEHIND_2⟩,⟨PyData.keyHash w.params "at",.str "at" tk_NUMBERS_BEHIND_3,.int 2 ti_NUMBERS_BEHIND_3⟩,⟨PyData.keyHash w.params "level",.str "level" tk_NUMBERS_BEHIND_4,.int 1 ti_NUMBERS_BEHIND_4⟩,⟨PyData.keyHash w.params "piece",.str "piece" tk_NUMBERS_BEHIND_5,.int 4 ti_NUMBERS_BEHIND_5⟩,⟨PyData.keyHash w.params "all",.str "all" tk_NUMBERS_BEHIND_6,.int 0 ti_NUMBERS_BEHIND_6⟩] nT_NUMBERS_BEHIND,#[]⟩) (aa:(aT_NUMBERS_BEHIND==sysModules)=false):
  TupC K mg "FIGURE_SPAN" (D.tup [.int 1,.int 4])/\DicI w K mg "NUMBERS_BEHIND" [("size",0),("bits",0),("broad",0),("at",2),("level",1),("piece",4),("all",0)]:=
 ⟨⟨_,mg_of X δ af,λF=>(t2 ae F)⟩,dicI_of (mg_of X δ ad) ac (⟨⟨_,_,rfl,rfl⟩,⟨⟨_,_,rfl,rfl⟩,⟨⟨_,_,rfl,rfl⟩,⟨⟨_,_,rfl,rfl⟩,⟨⟨_,_,rfl,rfl⟩,⟨⟨_,_,rfl,rfl⟩,⟨⟨_,_,rfl,rfl⟩, trivial⟩⟩⟩⟩⟩⟩⟩) aa (.cons (.cons (.cons (.cons (.cons (.cons (.cons (.nil))))))))⟩
end Lw
namespace PySem.W.Fast
def tw2827909308036430050:=Nat
def tw16575972095455964821:=Nat
def tw677887000779225469:=Nat
def tw8336277592789751076:=Nat
def tw15574590146133690145:=Nat
def tw8354760846927053502:=Nat
def tw3649997183691051736:=Nat
def tw10092218797490774625:=Nat
def tw13422874670460927847:=Nat
def tw7442874821922814182:=Nat
def tw2932873197932340291:=Nat
def tw14149019682117889608:=Nat
def tw12516573819937789449:=Nat
def tw2176892939931303303:=Nat
def tw6575460529572248765:=Nat
def tw5460063948166751097:=Nat
def tw14789184934670133299:=Nat
def tw4036859763325196172:=Nat
def tw18282356349600955634:=Nat
def tw10521278483873863848:=Nat
def tw2123009779735492092:=Nat
def tw16095970073529120909:=Nat
def tw2169814728860777021:=Nat
def tw7039790600082392559:=Nat
def tw13064959353209015844:=Nat
def tw9628406947015690073:=Nat
def tw7982638831031715907:=Nat
def tw11835691566436796570:=Nat
def tw1411774332802547342:=Nat
def tw3850784585248957476:=Nat
def tw5986908505167148392:=Nat
def tw17569844852501079737:=Nat
def tw7861119269541770968:=Nat
def tw6147641982851131695:=Nat
def tw4538625425095619165:=Nat
def tw2167550353529446514:=Nat
def tw11760271443853933079:=Nat
def tw10051061494998434148:=Nat
def tw1064400324633863616:=Nat
def tw10006357960624472931:=Nat
def tw9422800790977258167:=Nat
def tw12934962073102116539:=Nat
def tw8856215895677963130:=Nat
def tw408165218461396662:=Nat
def tw1175532231506778648:=Nat
def tw2935967562648393303:=Nat
def tw15301264338455653311:=Nat
def tw5901636903186333172:=Nat
def tw3953574784664631928:=Nat
def tw222072300835179511:=Nat
def tw7181772805135593300:=Nat
def tw3362935160575434318:=Nat
def tw17452515994236001612:=Nat
def tw10818936799983911273:=Nat
def tw6132087266676973564:=Nat
def tw343769538923238261:=Nat
def tw13827741316284392702:=Nat
def tw14012741159024467149:=Nat
def tw1517241973278189258:=Nat
def tw9843543199665514138:=Nat
def tw12337313310556072323:=Nat
def tw9651863070011881179:=Nat
def tw16363606381038057042:=Nat
def tw5838569105808697107:=Nat
def tw817913873813014773:=Nat
def tw17734815550864587177:=Nat
def tw10088913260146290449:=Nat
def tw4552177728321807147:=Nat
def tw9146467683203289320:=Nat
def tw17678590871678064003:=Nat
def tw15360719350737818328:=Nat
def tw13350823046978983073:=Nat
def tw2146459131901876996:=Nat
def tw4432493398690728817:=Nat
def tw17675514536695576024:=Nat
def tw15412583226484392332:=Nat
def tw18279499336351020977:=Nat
def tw6275384238688306887:=Nat
def tw2450181500093001347:=Nat
def tw9269323979845408665:=Nat
def tw10646574278975788566:=Nat
def tw14443090768780515880:=Nat
def tw1849694325778406474:=Nat
def tw15103863500259872871:=Nat
def tw11623177167743394626:=Nat
def tw8716921018234792194:=Nat
def tw13096955618497574689:=Nat
def tw6368797715808931176:=Nat
def tw3330759270754232099:=Nat
def tw6297970823582293826:=Nat
def tw10097004863314709681:=Nat
def tw11540781617721929908:=Nat
def tw13763777521022948616:=Nat
def tw10930249466337357451:=Nat
def tw2272316667061829046:=Nat
def tw12429845498457793424:=Nat
def tw3828004388622491387:=Nat
def tw17028454788616746312:=Nat
def tw11824741936288953980:=Nat
def tw3359006575362832348:=Nat
def tw1366597231631155355:=Nat
def tw16697561312602515727:=Nat
def tw9739573684893163876:=Nat
def tw15124439633858081912:=Nat
def tw3831325160351622973:=Nat
def tw5557516066382009566:=Nat
def tw3404996384211169276:=Nat
def tw2639705246406055843:=Nat
def tw16841107535546320648:=Nat
def tw17751099606085584942:=Nat
def tw2052942972271707130:=Nat
def tw9197772428409863462:=Nat
def tw15018889641935683097:=Nat
def tw1228549357402877679:=Nat
def tw3261223398597842935:=Nat
def tw3525217180908478268:=Nat
def tw4964257488899994216:=Nat
def tw7734949703872308968:=Nat
def tw14333936467193526584:=Nat
def tw4385610274445006652:=Nat
def tw15001202455360302813:=Nat
def tw4639041144348195622:=Nat
def tw15969078616416294540:=Nat
def tw5733483788564723416:=Nat
def tw15201333156023154281:=Nat
def tw17767160778837523:=Nat
def tw17662977013577055821:=Nat
def tw11023215784853543192:=Nat
def tw3125922983475435656:=Nat
def tw14863851493551587400:=Nat
def tw2599660837475145222:=Nat
def tw11573816455424915838:=Nat
def tw2076131647215924992:=Nat
def tw4278266914180175829:=Nat
def tw4404452267510562844:=Nat
def tw4109895757839809872:=Nat
def tw9368192877933204734:=Nat
def tw5531551676651912966:=Nat
def tw8623439789375202300:=Nat
def tw8411873556085190483:=Nat
def tw4051411655292565140:=Nat
def tw4393574497540545838:=Nat
def tw16046987636999455883:=Nat
def tw6568162878580874881:=Nat
def tw4060822898955543161:=Nat
def tw16641175521885615443:=Nat
def tw11739028253572465824:=Nat
def tw13033951386201776789:=Nat
def tw5722288093821910030:=Nat
def tw10941692797192216363:=Nat
def tw5471484045642573224:=Nat
def tw17770209439225992408:=Nat
def tw6493760402682876977:=Nat
def tw9909107513010452415:=Nat
def tw17793239354005072398:=Nat
def tw13482609612933482961:=Nat
def tw14790130480109912523:=Nat
def tw11198126168499703753:=Nat
def tw14854452875454618690:=Nat
def tw8740230346295029343:=Nat
def tw12709040785168088241:=Nat
def tw12902361215355005298:=Nat
def tw4258450384118610384:=Nat
def tw11980178635835412731:=Nat
def tw6482510969130123429:=Nat
def tw632212817847304629:=Nat
def tw4525134902832159747:=Nat
def tw1359299784230504169:=Nat
def tw17891697757086660055:=Nat
def tw5806259340148657377:=Nat
def tw1546364350806662510:=Nat
def tw1426369107976463212:=Nat
def tw5212081469136295420:=Nat
def tw4417613424267850517:=Nat
def tw1629397762543886640:=Nat
def tw7976487301486121837:=Nat
def tw16639779589597915243:=Nat
def tw17052410698661411368:=Nat
def tw7657127449029296805:=Nat
def tw6336077167140112102:=Nat
def tw2811716033419824146:=Nat
def tw9015488501108033770:=Nat
def tw16536189978779054359:=Nat
def tw15324252377410078185:=Nat
def tw13993016320257206259:=Nat
def tw14751054526884168269:=Nat
def tw12567331467602276127:=Nat
def tw5758487088173371583:=Nat
def tw12243792200898742017:=Nat
def tw12546336227702765984:=Nat
def tw16788246863821709238:=Nat
def tw17386056224772384797:=Nat
def tw5322391043929567848:=Nat
def tw11916667036217439972:=Nat
def tw4203572790526587132:=Nat
def tw8139210206051753218:=Nat
def tw13176757892372632426:=Nat
def tw8744182271944485197:=Nat
def tw4569591538020190431:=Nat
def tw9800235375728679586:=Nat
def tw5281138579155049996:=Nat
def tw12315787339227159849:=Nat
def tw13113448654570640374:=Nat
def tw4892398846812875994:=Nat
def tw14632399540113628471:=Nat
def tw10043960998771614731:=Nat
def tw4691591662688564928:=Nat
def tw2121361480534096758:=Nat
def tw8166493186021064349:=Nat
def tw8913327360331761276:=Nat
def tw1683856737798635738:=Nat
def tw7126141116234987405:=Nat
def tw623655327372994234:=Nat
def tw15672428510417882812:=Nat
def tw1818638726961195920:=Nat
def tw15703571897944837591:=Nat
def tw5461873103920897082:=Nat
def tw9725490394094259551:=Nat
def tw6603019782013788607:=Nat
def tw2754806294529551425:=Nat
def tw13081672608112433461:=Nat
def tw17509539402436237551:=Nat
def tw10883752208430085537:=Nat
def tw16154726119593384424:=Nat
def tw9911562509297350792:=Nat
def tw9852546281205659897:=Nat
def tw2446930457822620598:=Nat
def tw7483492330509805531:=Nat
def tw9315236809048184200:=Nat
def tw6710708150792900173:=Nat
def tw4030163772630531603:=Nat
def tw7682163506630319057:=Nat
def tw15809027573998183760:=Nat
def tw14608380941009592913:=Nat
def tw15631845385015210825:=Nat
def tw3076763140517769213:=Nat
def tw17309721802601240797:=Nat
def tw14931937192843469973:=Nat
def tw17995314742746956516:=Nat
def tw1912399238865363405:=Nat
def tw7213684982335003033:=Nat
def tw4696509395378045384:=Nat
def tw5904225419100343013:=Nat
def tw16892607171140261936:=Nat
def tw3341832677474725377:=Nat
def tw1953879527788161750:=Nat
def tw5983336545430503218:=Nat
def tw2274524323634177454:=Nat
def tw8210982083127403721:=Nat
def tw4638529791168117827:=Nat
def tw8830793140520566487:=Nat
def tw14817560163634620397:=Nat
def tw4412610618874549508:=Nat
def tw9422295741757942646:=Nat
def tw10106264263904990324:=Nat
def tw5290124378796205608:=Nat
def tw3640159087364793494:=Nat
def tw1635622266062971147:=Nat
def tw5263103952586779126:=Nat
def tw6131012438417909106:=Nat
def tw3032326943521337753:=Nat
def tw13147526246216702951:=Nat
def tw8882380046070660377:=Nat
def tw16296517435695643420:=Nat
def tw4778407513206449001:=Nat
def tw89921075114619574:=Nat
def tw7045687127556446277:=Nat
def tw13111104217983998240:=Nat
def tw3037944771231864054:=Nat
def tw5148884794457478639:=Nat
def tw13051251508957220409:=Nat
def tw2404415736875657851:=Nat
def tw4723087053213166200:=Nat
def tw1846216594870114149:=Nat
def tw3381074064878993310:=Nat
def tw8953016760524838099:=Nat
def tw8742440804065415418:=Nat
def tw207698637683635455:=Nat
def tw12192929679710363498:=Nat
def tw653144926145518212:=Nat
def tw4667104296648115069:=Nat
def tw8421644707235725447:=Nat
def tw2301139503377865080:=Nat
def tw11387762932059368581:=Nat
def tw14046297154527200614:=Nat
def tw3016894817828411729:=Nat
def tw9393642168124236787:=Nat
def tw7019454964520535936:=Nat
def tw17743675141512680087:=Nat
def tw6473297445438950809:=Nat
def tw3746712195076852333:=Nat
def tw7430814105768156861:=Nat
def tw15537872936726908534:=Nat
def tw3926236679036880865:=Nat
def tw420244955661855535:=Nat
def tw7217845904134836040:=Nat
def tw10742977125435575049:=Nat
def tw11027049694646163216:=Nat
def tw9403414286709703785:=Nat
def tw9985536582426200567:=Nat
def tw14726200775369480850:=Nat
def tw16404366989746060342:=Nat
def tw8351105567451979207:=Nat
def tw6246031732386365353:=Nat
def tw13180302196221308546:=Nat
def tw13836078606873901842:=Nat
def tw9725340793549465704:=Nat
def tw15354146824354188:=Nat
def tw6305527757905685497:=Nat
def tw8781671717140399963:=Nat
def tw5686388917116667511:=Nat
def tw16133012773341816939:=Nat
def tw14409866801079260878:=Nat
def tw430265210164858625:=Nat
def tw13069460198881951534:=Nat
def tw1956665461232032749:=Nat
def tw8229282346115462681:=Nat
def tw1659458462046516508:=Nat
def tw12785705711340338165:=Nat
def tw14569859301814250477:=Nat
def tw4656203522243337160:=Nat
def tw18306980544736961777:=Nat
def tw1406598481548275094:=Nat
def tw14726451686330987773:=Nat
def tw7849623678328363018:=Nat
def tw16557863393169739587:=Nat
def tw9060053068138497776:=Nat
def tw9096114870069449831:=Nat
def tw7103268698297755958:=Nat
def tw4589389884218367529:=Nat
def tw4989602787428329050:=Nat
def tw11892120969430770415:=Nat
def tw7396598187735798558:=Nat
def tw17945837424205577952:=Nat
def tw3162544752061482577:=Nat
def tw14520354543995499200:=Nat
def tw5689212291089221448:=Nat
def tw7786294782679990748:=Nat
def tw6601627224924803173:=Nat
def tw8530394726249709341:=Nat
def tw4310011186096593108:=Nat
def tw11035355763264396570:=Nat
def tw10961684829082962594:=Nat
def tw15188156713461043256:=Nat
def tw16740583303746704874:=Nat
def tw2243980573627596077:=Nat
def tw8530997145623120518:=Nat
def tw12497690276385500778:=Nat
def tw1050228416753668155:=Nat
def tw78961357170265456:=Nat
def tw11695086929286858773:=Nat
def tw6326388552509752176:=Nat
def tw9216040769368705891:=Nat
def tw6812346793095179412:=Nat
def tw5726337350174946653:=Nat
def tw2580348508600060698:=Nat
def tw1109916187749314325:=Nat
def tw15533617990081750465:=Nat
def tw7041945117059065378:=Nat
def tw3041344641059462902:=Nat
def tw2716626864018108349:=Nat
def tw11268373387239954031:=Nat
def tw9878778001821034470:=Nat
def tw3782792399072988528:=Nat
def tw3001048133826307234:=Nat
def tw1871138020413101441:=Nat
def tw664912521835009445:=Nat
def tw6663072430554317413:=Nat
def tw8917523072031547292:=Nat
def tw1960263238042332397:=Nat
def tw15072579934896171028:=Nat
def tw12319450359553000821:=Nat
def tw1661983576281222954:=Nat
def tw17988730565724778262:=Nat
def tw956135955784383711:=Nat
def tw3027971207935117476:=Nat
def tw9301126404324341083:=Nat
def tw2951683325100072366:=Nat
def tw9546905923756308148:=Nat
def tw2742551193520933070:=Nat
def tw4851447280017430320:=Nat
def tw15135796917811840472:=Nat
def tw8092628559607046208:=Nat
def tw9769202460370506194:=Nat
def tw13437462063742880804:=Nat
def tw1981508817387953691:=Nat
def tw2795188459657797000:=Nat
def tw967718007318080179:=Nat
def tw7761877532510076767:=Nat
def tw1120505036061700447:=Nat
def tw7127865038401655227:=Nat
def tw14378635231983171424:=Nat
def tw2470569218096425662:=Nat
def tw5927897183404183449:=Nat
def tw13482476357985392606:=Nat
def tw15963513943219541467:=Nat
def tw11974123470414736835:=Nat
def tw380869721116097986:=Nat
def tw11712406441389954931:=Nat
def tw3894804695972290934:=Nat
def tw12001920079933112464:=Nat
def tw12880078664212662843:=Nat
def tw12108076691228250600:=Nat
def tw6246624757200882039:=Nat
def tw170250330296862129:=Nat
def tw13953989723492462921:=Nat
def tw15354795688254767763:=Nat
def tw17013936144859059354:=Nat
def tw2398581258923506320:=Nat
def tw13361145225488060207:=Nat
def tw3745336558035820613:=Nat
def tw13113786930697655225:=Nat
def tw11647883778855680909:=Nat
def tw17964452160754096764:=Nat
def tw672425241280372992:=Nat
def tw10362969517798949502:=Nat
def tw11695994475596051315:=Nat
def tw9781768627320199089:=Nat
def tw13294630345430436368:=Nat
def tw14844321028626749317:=Nat
def tw7315256267861343963:=Nat
def tw7434105172688069303:=Nat
def tw7409308872396744902:=Nat
def tw975310923821793135:=Nat
def tw10267769160753622890:=Nat
def tw3094407708895240845:=Nat
def tw11008551919592876449:=Nat
def tw1377067057865660762:=Nat
def tw8289652611564098143:=Nat
def tw3392706882478856585:=Nat
def tw7516491105525724687:=Nat
def tw4829110602520696857:=Nat
def tw7026601560292481759:=Nat
def tw1292088083192719617:=Nat
def tw2086986190064654205:=Nat
def tw17328602105344796225:=Nat
def tw3962813041030856414:=Nat
def tw10642071723861120614:=Nat
def tw3959694132233428584:=Nat
def tw929729587385476839:=Nat
def tw9932590143417242979:=Nat
def tw16118940302284035003:=Nat
def tw8008238156221992625:=Nat
def tw9598435043816186722:=Nat
def tw11818559298693268444:=Nat
def tw11733799320451704954:=Nat
def tw8344409266696079915:=Nat
end PySem.W.Fast
open PySem PySem.W PyProof.Rows L2 Lw
set_option maxRecDepth 100000 in
set_option maxHeartbeats 0 in
theorem PySem.Challenge.cw_liftwave_k49_rows_read_holds : PySem.Challenge.rw_liftwave_k49_rows_read.Holds := by
 w_on;o_law;k_head;(case hw=>w_witness2)
 k_fill
 refine L2.law_walk (k:=6) (l:=PySem.Challenge.rw_liftwave_k49_rows_read) rfl rfl ⟨rfl,by decide,by decide⟩ (λw h σ=>PySem.W.kIn_of σ) ?F
 case F=>
  intro w mg fa h X δ hfa
  have B:L2.BltV mg:=⟨⟨mz X δ,mz X δ,mz X δ,mz X δ,mz X δ,mz X δ,mz X δ,mz X δ,mz X δ,mz X δ,mz X δ,mz X δ⟩,mz X δ,mz X δ,mz X δ,mz X δ,mz X δ,mz X δ,mz X δ,mz X δ,mz X δ,mz X δ⟩
  have KV:=L2.KitV.of2 X (by simp only[kitNs,forall_mem_cons,D.tyN,kitB,String.reduceBEq,Bool.or_false,Bool.false_or,Bool.true_or,not_mem_nil,false_implies,implies_true,and_true];and_intros<;>kit_is)
  have CV_Size:=dcls (c := "Size") (ns:=Lw.ns_Size) X (hn:=by intro _ h;cases h) (h1:=by decide +kernel) (h2:=by decide)
  have CV_Bits:=dcls (c := "Bits") (ns:=Lw.ns_Bits) X (hn:=by intro _ h;cases h) (h1:=by decide +kernel) (h2:=by decide)
  have CV_Broad:=dcls (c := "Broad") (ns:=Lw.ns_Broad) X (hn:=by intro _ h;cases h) (h1:=by decide +kernel) (h2:=by decide)
  have CV_At:=dcls (c := "At") (ns:=Lw.ns_At) X (hn:=by simp only[Lw.ns_At,forall_mem_cons];exact⟨by k_is,by k_is,λ_ h=>by cases h⟩) (h1:=by decide +kernel) (h2:=by decide)
  have CV_Level:=dcls (c := "Level") (ns:=Lw.ns_Level) X (hn:=by simp only[Lw.ns_Level,forall_mem_cons];exact⟨by k_is,λ_ h=>by cases h⟩) (h1:=by decide +kernel) (h2:=by decide)
  have CV_Piece:=dcls (c := "Piece") (ns:=Lw.ns_Piece) X (hn:=by simp only[Lw.ns_Piece,forall_mem_cons];exact⟨by k_is,by k_is,by k_is,by k_is,λ_ h=>by cases h⟩) (h1:=by decide +kernel) (h2:=by decide)
  have CV_All:=dcls (c := "All") (ns:=Lw.ns_All) X (hn:=by intro _ h;cases h) (h1:=by decide +kernel) (h2:=by decide)
  have g_FIGURES:∃t,mg "FIGURES"=some (.str "0123456789" t):=⟨_,mv X δ⟩
  have ⟨g_FIGURE_SPAN,g_NUMBERS_BEHIND⟩:=csts (w:=w) X δ (by k_is) (by k_is) (by k_is) (by k_is) (by decide +kernel)
  have D1:=dmk (x := "holds") (st:=Lw.s_holds) X δ
  have D2:=dmk (x := "read_number") (st:=Lw.s_read_number) X δ
  have q3:=dini (c := "At") (q := "At.__init__") (st:=Lw.s_At___init__) X δ
  have ⟨D3,M_At⟩:=q3
  have q4:=dini (c := "Level") (q := "Level.__init__") (st:=Lw.s_Level___init__) X δ
  have ⟨D4,M_Level⟩:=q4
  have q5:=dini (c := "Piece") (q := "Piece.__init__") (st:=Lw.s_Piece___init__) X δ
  have ⟨D5,M_Piece⟩:=q5
  have D6:=dmk (x := "row_number") (st:=Lw.s_row_number) X δ
  have D7:=dmk (x := "asked_by") (st:=Lw.s_asked_by) X δ
  have D8:=dmk (x := "question") (st:=Lw.s_question) X δ
  have D9:=dmk (x := "_law_cell_at") (st:=Lw.s_law_cell_at) X δ
  have D10:=dmk (x := "_law_words") (st:=Lw.s_law_words) X δ
  have D11:=dmk (x := "_law_is_kind") (st:=Lw.s_law_is_kind) X δ
  have D12:=dmk (x := "_law_right") (st:=Lw.s_law_right) X δ
  have D13:=dmk (x := "_law_number") (st:=Lw.s_law_number) X δ
  have D14:=dmk (x := "_law_odd_number") (st:=Lw.s_law_odd_number) X δ
  have D15:=dmk (x := "_law_odd_row") (st:=Lw.s_law_odd_row) X δ
  have D16:=dmk (x := "_law_spoiled") (st:=Lw.s_law_spoiled) X δ
  have D17:=dmk (x := "_law_refused") (st:=Lw.s_law_refused) X δ
  have D18:=dmk (x := "law") (st:=Lw.s_law) X δ
  have aX_NoRow:=dnx (c := "NoRow") X
  have aX_NoHead:=dnx (c := "NoHead") X
  have aX_NoLadder:=dnx (c := "NoLadder") X
  have aX_NoBits:=dnx (c := "NoBits") X
  have aX_NoLevel:=dnx (c := "NoLevel") X
  have aX_NoPicture:=dnx (c := "NoPicture") X
  have aX_NoPiece:=dnx (c := "NoPiece") X
  have aX_NoText:=dnx (c := "NoText") X
  have aX_TooMany:=dnx (c := "TooMany") X
  have aX_WaveError:=dnx (c := "WaveError") X
  have EV_NoRow:=dexc (xs:=[("NoRow",true),("NoHead",false),("NoLadder",false),("NoBits",false),("NoLevel",false),("NoPicture",false),("NoPiece",false),("NoText",false),("TooMany",false)]) (ts:=[("ValueError",true)]) X aX_NoRow ⟨(by first |k_is |kts_exm |kernel_rfl),(by first |k_is |kts_exm |kernel_rfl),(by first |k_is |kts_exm |kernel_rfl),(by first |k_is |kts_exm |kernel_rfl),(by first |k_is |kts_exm |kernel_rfl),(by first |k_is |kts_exm |kernel_rfl),(by first |k_is |kts_exm |kernel_rfl),(by first |k_is |kts_exm |kernel_rfl)⟩ (by simp only[forall_mem_cons];exact⟨⟨_,aX_NoRow,(by first |k_is |kts_exm |kernel_rfl)⟩,⟨_,aX_NoHead,(by first |k_is |kts_exm |kernel_rfl)⟩,⟨_,aX_NoLadder,(by first |k_is |kts_exm |kernel_rfl)⟩,⟨_,aX_NoBits,(by first |k_is |kts_exm |kernel_rfl)⟩,⟨_,aX_NoLevel,(by first |k_is |kts_exm |kernel_rfl)⟩,⟨_,aX_NoPicture,(by first |k_is |kts_exm |kernel_rfl)⟩,⟨_,aX_NoPiece,(by first |k_is |kts_exm |kernel_rfl)⟩,⟨_,aX_NoText,(by first |k_is |kts_exm |kernel_rfl)⟩,⟨_,aX_TooMany,(by first |k_is |kts_exm |kernel_rfl)⟩,λ_ h=>by cases h⟩) (by simp only[forall_mem_cons];exact⟨(by first |k_is |kts_exm |kernel_rfl),λ_ h=>by cases h⟩)
  have x_NoRow:=dxm X aX_NoRow aX_WaveError (by first |k_is |kts_exm |kernel_rfl)
  have m_WaveError:=mg_of X δ aX_WaveError
  have zB_ValueError:=mz (n := "ValueError") X δ
  have M0_All:=dmk0 (c := "All") X δ
  have M0_Size:=dmk0 (c := "Size") X δ
  have M0_Bits:=dmk0 (c := "Bits") X δ
  have M0_Broad:=dmk0 (c := "Broad") X δ
  have OV_M:=dovM (t:=Lw.objM) X (by simp only[Lw.objM,forall_mem_cons];exact⟨dins (c := "Size") X ⟨(by first |k_is |kts_exm |kernel_rfl),(by first |k_is |kts_exm |kernel_rfl),(by first |k_is |kts_exm |kernel_rfl),(by first |k_is |kts_exm |kernel_rfl),(by first |k_is |kts_exm |kernel_rfl),(by first |k_is |kts_exm |kernel_rfl)⟩ (by simp only[forall_mem_cons];exact⟨⟨_,(by k_is),(by first |k_is |kts_exm |kernel_rfl)⟩,⟨_,(by k_is),(by first |k_is |kts_exm |kernel_rfl)⟩,⟨_,(by k_is),(by first |k_is |kts_exm |kernel_rfl)⟩,⟨_,(by k_is),(by first |k_is |kts_exm |kernel_rfl)⟩,⟨_,(by k_is),(by first |k_is |kts_exm |kernel_rfl)⟩,⟨_,(by k_is),(by first |k_is |kts_exm |kernel_rfl)⟩,⟨_,(by k_is),(by first |k_is |kts_exm |kernel_rfl)⟩,⟨_,(by k_is),(by first |k_is |kts_exm |kernel_rfl)⟩,λ_ h=>by cases h⟩),dins (c := "Bits") X ⟨(by first |k_is |kts_exm |kernel_rfl),(by first |k_is |kts_exm |kernel_rfl),(by first |k_is |kts_exm |kernel_rfl),(by first |k_is |kts_exm |kernel_rfl),(by first |k_is |kts_exm |kernel_rfl),(by first |k_is |kts_exm |kernel_rfl)⟩ (by simp only[forall_mem_cons];exact⟨⟨_,(by k_is),(by first |k_is |kts_exm |kernel_rfl)⟩,⟨_,(by k_is),(by first |k_is |kts_exm |kernel_rfl)⟩,⟨_,(by k_is),(by first |k_is |kts_exm |kernel_rfl)⟩,⟨_,(by k_is),(by first |k_is |kts_exm |kernel_rfl)⟩,⟨_,(by k_is),(by first |k_is |kts_exm |kernel_rfl)⟩,⟨_,(by k_is),(by first |k_is |kts_exm |kernel_rfl)⟩,⟨_,(by k_is),(by first |k_is |kts_exm |kernel_rfl)⟩,⟨_,(by k_is),(by first |k_is |kts_exm |kernel_rfl)⟩,λ_ h=>by cases h⟩),dins (c := "Broad") X ⟨(by first |k_is |kts_exm |kernel_rfl),(by first |k_is |kts_exm |kernel_rfl),(by first |k_is |kts_exm |kernel_rfl),(by first |k_is |kts_exm |kernel_rfl),(by first |k_is |kts_exm |kernel_rfl),(by first |k_is |kts_exm |kernel_rfl)⟩ (by simp only[forall_mem_cons];exact⟨⟨_,(by k_is),(by first |k_is |kts_exm |kernel_rfl)⟩,⟨_,(by k_is),(by first |k_is |kts_exm |kernel_rfl)⟩,⟨_,(by k_is),(by first |k_is |kts_exm |kernel_rfl)⟩,⟨_,(by k_is),(by first |k_is |kts_exm |kernel_rfl)⟩,⟨_,(by k_is),(by first |k_is |kts_exm |kernel_rfl)⟩,⟨_,(by k_is),(by first |k_is |kts_exm |kernel_rfl)⟩,⟨_,(by k_is),(by first |k_is |kts_exm |kernel_rfl)⟩,⟨_,(by k_is),(by first |k_is |kts_exm |kernel_rfl)⟩,λ_ h=>by cases h⟩),dins (c := "At") X ⟨(by first |k_is |kts_exm |kernel_rfl),(by first |k_is |kts_exm |kernel_rfl),(by first |k_is |kts_exm |kernel_rfl),(by first |k_is |kts_exm |kernel_rfl),(by first |k_is |kts_exm |kernel_rfl),(by first |k_is |kts_exm |kernel_rfl)⟩ (by simp only[forall_mem_cons];exact⟨⟨_,(by k_is),(by first |k_is |kts_exm |kernel_rfl)⟩,⟨_,(by k_is),(by first |k_is |kts_exm |kernel_rfl)⟩,⟨_,(by k_is),(by first |k_is |kts_exm |kernel_rfl)⟩,⟨_,(by k_is),(by first |k_is |kts_exm |kernel_rfl)⟩,⟨_,(by k_is),(by first |k_is |kts_exm |kernel_rfl)⟩,⟨_,(by k_is),(by first |k_is |kts_exm |kernel_rfl)⟩,⟨_,(by k_is),(by first |k_is |kts_exm |kernel_rfl)⟩,⟨_,(by k_is),(by first |k_is |kts_exm |kernel_rfl)⟩,λ_ h=>by cases h⟩),dins (c := "Level") X ⟨(by first |k_is |kts_exm |kernel_rfl),(by first |k_is |kts_exm |kernel_rfl),(by first |k_is |kts_exm |kernel_rfl),(by first |k_is |kts_exm |kernel_rfl),(by first |k_is |kts_exm |kernel_rfl),(by first |k_is |kts_exm |kernel_rfl)⟩ (by simp only[forall_mem_cons];exact⟨⟨_,(by k_is),(by first |k_is |kts_exm |kernel_rfl)⟩,⟨_,(by k_is),(by first |k_is |kts_exm |kernel_rfl)⟩,⟨_,(by k_is),(by first |k_is |kts_exm |kernel_rfl)⟩,⟨_,(by k_is),(by first |k_is |kts_exm |kernel_rfl)⟩,⟨_,(by k_is),(by first |k_is |kts_exm |kernel_rfl)⟩,⟨_,(by k_is),(by first |k_is |kts_exm |kernel_rfl)⟩,⟨_,(by k_is),(by first |k_is |kts_exm |kernel_rfl)⟩,⟨_,(by k_is),(by first |k_is |kts_exm |kernel_rfl)⟩,λ_ h=>by cases h⟩),dins (c := "Piece") X ⟨(by first |k_is |kts_exm |kernel_rfl),(by first |k_is |kts_exm |kernel_rfl),(by first |k_is |kts_exm |kernel_rfl),(by first |k_is |kts_exm |kernel_rfl),(by first |k_is |kts_exm |kernel_rfl),(by first |k_is |kts_exm |kernel_rfl)⟩ (by simp only[forall_mem_cons];exact⟨⟨_,(by k_is),(by first |k_is |kts_exm |kernel_rfl)⟩,⟨_,(by k_is),(by first |k_is |kts_exm |kernel_rfl)⟩,⟨_,(by k_is),(by first |k_is |kts_exm |kernel_rfl)⟩,⟨_,(by k_is),(by first |k_is |kts_exm |kernel_rfl)⟩,⟨_,(by k_is),(by first |k_is |kts_exm |kernel_rfl)⟩,⟨_,(by k_is),(by first |k_is |kts_exm |kernel_rfl)⟩,⟨_,(by k_is),(by first |k_is |kts_exm |kernel_rfl)⟩,⟨_,(by k_is),(by first |k_is |kts_exm |kernel_rfl)⟩,λ_ h=>by cases h⟩),dins (c := "All") X ⟨(by first |k_is |kts_exm |kernel_rfl),(by first |k_is |kts_exm |kernel_rfl),(by first |k_is |kts_exm |kernel_rfl),(by first |k_is |kts_exm |kernel_rfl),(by first |k_is |kts_exm |kernel_rfl),(by first |k_is |kts_exm |kernel_rfl)⟩ (by simp only[forall_mem_cons];exact⟨⟨_,(by k_is),(by first |k_is |kts_exm |kernel_rfl)⟩,⟨_,(by k_is),(by first |k_is |kts_exm |kernel_rfl)⟩,⟨_,(by k_is),(by first |k_is |kts_exm |kernel_rfl)⟩,⟨_,(by k_is),(by first |k_is |kts_exm |kernel_rfl)⟩,⟨_,(by k_is),(by first |k_is |kts_exm |kernel_rfl)⟩,⟨_,(by k_is),(by first |k_is |kts_exm |kernel_rfl)⟩,⟨_,(by k_is),(by first |k_is |kts_exm |kernel_rfl)⟩,⟨_,(by k_is),(by first |k_is |kts_exm |kernel_rfl)⟩,λ_ h=>by cases h⟩),λ_ h=>by cases h⟩)
  have n_All:=dnm (x := "All") X δ
  have n_At:=dnm (x := "At") X δ
  have n_Bits:=dnm (x := "Bits") X δ
  have n_Broad:=dnm (x := "Broad") X δ
  have n_Level:=dnm (x := "Level") X δ
  have n_NoBits:=dnm (x := "NoBits") X δ
  have n_NoHead:=dnm (x := "NoHead") X δ
  have n_NoLadder:=dnm (x := "NoLadder") X δ
  have n_NoLevel:=dnm (x := "NoLevel") X δ
  have n_NoPicture:=dnm (x := "NoPicture") X δ
  have n_NoPiece:=dnm (x := "NoPiece") X δ
  have n_NoRow:=dnm (x := "NoRow") X δ
  have n_NoText:=dnm (x := "NoText") X δ
  have n_Piece:=dnm (x := "Piece") X δ
  have n_Question:=dnm (x := "Question") X δ
  have n_Size:=dnm (x := "Size") X δ
  have n_TooMany:=dnm (x := "TooMany") X δ
  cases hfa.symm.trans D18.here
  refine lawF D18 (λs v=>.of_eq rfl) λb KB GB=>?_
  have O_NoRow:=own_of KB GB aX_NoRow (by first |k_is |kts_exm |kernel_rfl)
  have O_NoText:=own_of KB GB aX_NoText (by first |k_is |kts_exm |kernel_rfl)
  generalize OpenLaw.prog PySem.Challenge.rw_liftwave_k49_rows_read=P
  have c_law_cell_at:=ok_law_cell_at P w b D9 B KV
  have c_law_words:=ok_law_words P w b D10 B KV
  have c_law_number:=ok_law_number P w b D13 B KV
  have c_law_odd_number:=ok_law_odd_number P w b D14 B KV
  have c_law_odd_row:=ok_law_odd_row P w b D15 B KV
  have c_law_spoiled:=ok_law_spoiled P w b D16 B KV c_law_odd_number c_law_number c_law_odd_row
  have c_At___init__:=ok_At___init__ P w b D3 M_At B KV CV_At
  have c_Level___init__:=ok_Level___init__ P w b D4 M_Level B KV CV_Level
  have c_Piece___init__:=ok_Piece___init__ P w b D5 M_Piece B KV CV_Piece
  have c_asked_by:=ok_asked_by P w b D7 B KV M0_All M0_Size M0_Bits M0_Broad CV_Size CV_Bits CV_Broad CV_At CV_Level CV_Piece CV_All c_At___init__ c_Level___init__ c_Piece___init__
  have c_holds:=ok_holds P w b D1 B KV
  have c_read_number:=ok_read_number P w b D2 B KV aX_NoText O_NoText g_FIGURES g_FIGURE_SPAN c_holds
  have c_row_number:=ok_row_number P w b D6 B KV aX_NoRow O_NoRow (mg_of X δ aX_NoText) (dxm X aX_NoText aX_NoText (by first |k_is |kts_exm |kernel_rfl)) c_read_number
  have c_question:=ok_question P w b D8 B KV aX_NoRow O_NoRow g_NUMBERS_BEHIND c_asked_by c_row_number
  have c_law_is_kind:=ok_law_is_kind P w b D11 B KV OV_M n_Piece n_Size n_Bits n_Broad n_All n_At n_Level
  have c_law_right:=ok_law_right P w b D12 B KV OV_M n_Question c_question c_law_is_kind
  have c_law_refused:=ok_law_refused P w b D17 B KV m_WaveError x_NoRow EV_NoRow zB_ValueError n_NoRow n_NoHead n_NoLadder n_NoBits n_NoLevel n_NoPicture n_NoPiece n_NoText n_TooMany c_question
  exact ok_law P w b D18 B KV c_law_cell_at c_law_words c_law_number c_law_spoiled c_law_right c_law_refused